// Package plate is layer 1: the licence plates of bags. See shared/doc/01-plate.md.
package plate

import (
	"cmp"

	"baggage/api"
	"baggage/ascii"
)

// A text has a digit for Lead, then those of Airline, then those of Serial.
const (
	length     = 10
	airlineAt  = 1
	serialAt   = 4
	maxLead    = 9
	maxAirline = 999
	serials    = 1000000
	divisor    = 7
	unread     = '?'
)

// Valid reports whether every part of p is in its range. No airline has the number 0.
func Valid(p api.Plate) bool {
	return p.Lead >= 0 && p.Lead <= maxLead &&
		p.Airline >= 1 && p.Airline <= maxAirline &&
		p.Serial >= 0 && p.Serial < serials
}

// Parse returns the plate with the text s.
func Parse(s string) (api.Plate, api.Errno) {
	if len(s) != length {
		return api.Plate{}, api.ErrSyntax
	}
	lead, leadRead := ascii.Value(s[:airlineAt])
	airline, airlineRead := ascii.Value(s[airlineAt:serialAt])
	serial, serialRead := ascii.Value(s[serialAt:])
	if !leadRead || !airlineRead || !serialRead {
		return api.Plate{}, api.ErrSyntax
	}
	p := api.Plate{Lead: lead, Airline: airline, Serial: serial}
	if !Valid(p) {
		return api.Plate{}, api.ErrRange
	}
	return p, api.OK
}

// Format returns the text of p, or the empty string if p is not valid.
func Format(p api.Plate) string {
	if !Valid(p) {
		return ""
	}
	var text [length]byte
	ascii.Write(text[:airlineAt], p.Lead)
	ascii.Write(text[airlineAt:serialAt], p.Airline)
	ascii.Write(text[serialAt:], p.Serial)
	return string(text[:])
}

// Compare orders plates by Lead, Airline and Serial. It compares rather than subtracts, because the parts of an invalid plate may be too far apart for a difference.
func Compare(a, b api.Plate) int {
	if c := cmp.Compare(a.Lead, b.Lead); c != 0 {
		return c
	}
	if c := cmp.Compare(a.Airline, b.Airline); c != 0 {
		return c
	}
	return cmp.Compare(a.Serial, b.Serial)
}

// Check returns the remainder of the number that the text of p stands for, or -1 if p is not valid. It takes the remainder after each digit, because ten digits need more than 32 bits.
func Check(p api.Plate) int {
	text := Format(p)
	if text == "" {
		return -1
	}
	rest := 0
	for i := range length {
		rest = (rest*10 + int(text[i]-'0')) % divisor
	}
	return rest
}

// Run returns n plates from p on; after the greatest serial number comes 0.
func Run(p api.Plate, n int) ([]api.Plate, api.Errno) {
	if !Valid(p) || n < 1 || n > api.MaxRun {
		return nil, api.ErrRange
	}
	run := make([]api.Plate, n)
	for i := range n {
		run[i] = api.Plate{Lead: p.Lead, Airline: p.Airline, Serial: (p.Serial + i) % serials}
	}
	return run, api.OK
}

// Matches reports whether pattern is a pattern that allows the valid plate p.
func Matches(pattern string, p api.Plate) bool {
	text := Format(p)
	if text == "" || len(pattern) != length {
		return false
	}
	for i := range length {
		// A byte that no pattern has differs from every digit of the text.
		if pattern[i] != unread && pattern[i] != text[i] {
			return false
		}
	}
	return true
}

// Candidates returns the indices of the plates of l that pattern allows, ascending.
func Candidates(pattern string, l []api.Plate) []int {
	var found []int
	for i, p := range l {
		if Matches(pattern, p) {
			found = append(found, i)
		}
	}
	return found
}

// Distance returns the number of positions in which the texts of a and b differ, or -1 if one of them is not valid.
func Distance(a, b api.Plate) int {
	s, t := Format(a), Format(b)
	if s == "" || t == "" {
		return -1
	}
	n := 0
	for i := range length {
		if s[i] != t[i] {
			n++
		}
	}
	return n
}
