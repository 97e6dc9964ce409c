package message

import (
	"slices"
	"strconv"
	"strings"

	"baggage/api"
	"baggage/ascii"
	"baggage/flight"
	"baggage/plate"
	"baggage/telegram"
)

// What parts begin with or consist of, besides the words of the table.
const (
	sender   = "1L"
	kilos    = "K"
	yes      = "Y"
	no       = "N"
	slash    = "/"
	legParts = 4 // the most parts of an element other than B
)

// The rows of the table of words.
const (
	kinds = iota
	changes
	states
	exceptions
)

// words has the words that stand for small numbers, by row and number. 0 has the empty word in each row, so that what is not written is read as 0.
var words = [...][6]string{
	kinds:      {api.MsgSource: "BSM", api.MsgTransfer: "BTM", api.MsgProcessed: "BPM", api.MsgUnload: "BUM", api.MsgBoarding: "BBM"},
	changes:    {api.DoUpdate: "CHG", api.DoDelete: "DEL"},
	states:     {api.PaxChecked: "C", api.PaxStandby: "S", api.PaxAbsent: "N", api.PaxBoarded: "B"},
	exceptions: {api.ExcRush: "RUSH", api.ExcCrew: "CREW", api.ExcCargo: "CARGO"},
}

// find returns the number that a word stands for, or -1.
func find(row int, word string) int {
	for n, w := range words[row] {
		if w == word {
			return n
		}
	}
	return -1
}

// Encode returns the telegram of m.
func Encode(m api.Message) (api.Telegram, api.Errno) {
	if e := Validate(m); e != api.OK {
		return api.Telegram{}, e
	}
	t := api.Telegram{Kind: words[kinds][m.Kind], Change: words[changes][m.Do]}
	for _, key := range keys[m.Kind] {
		for _, parts := range write(m, key) {
			t.Elements = append(t.Elements, api.Element{Key: string(key), Parts: parts})
		}
	}
	return t, api.OK
}

// write returns the parts of each element of a valid message with a key.
func write(m api.Message, key rune) [][]string {
	switch key {
	case 'V':
		return [][]string{{sender + m.Port, strconv.Itoa(m.Number)}}
	case 'I':
		return writeLegs(m.In)
	case 'F':
		return writeLegs(m.Out)
	case 'O':
		return writeLegs(m.Onward...)
	case 'N':
		return [][]string{{plate.Format(m.First), threeDigits(m.Count)}}
	case 'S':
		return [][]string{{writeLoad(m.Load), words[states][m.Status], threeDigits(m.Sequence)}}
	case 'W':
		return [][]string{{kilos, strconv.Itoa(m.Weight)}}
	case 'P':
		return [][]string{{m.Surname, m.Given}}
	case 'X':
		return writeException(m.Exception)
	case 'J':
		return [][]string{{m.Node}}
	case 'B':
		return writeList(m.List)
	}
	return nil
}

func writeLegs(legs ...api.Leg) [][]string {
	var l [][]string
	for _, g := range legs {
		designator, day, _ := strings.Cut(flight.Format(g.Flight), slash)
		l = append(l, []string{designator, day, g.Port, g.Class})
	}
	return l
}

func writeLoad(load bool) string {
	if load {
		return yes
	}
	return no
}

func writeException(n int) [][]string {
	if n == api.ExcNone {
		return nil
	}
	return [][]string{{words[exceptions][n]}}
}

// writeList returns as many parts for each element as it can have.
func writeList(passengers []int) [][]string {
	var l [][]string
	for some := range slices.Chunk(passengers, api.MaxParts) {
		var parts []string
		for _, n := range some {
			parts = append(parts, threeDigits(n))
		}
		l = append(l, parts)
	}
	return l
}

func threeDigits(n int) string {
	var text [3]byte
	ascii.Write(text[:], n)
	return string(text[:])
}

// Decode returns the message with the telegram t. It reads without looking for errors, and then writes what it read: t is a telegram of a valid message only if the same comes out.
func Decode(t api.Telegram) (api.Message, api.Errno) {
	m := api.Message{Kind: find(kinds, t.Kind), Do: find(changes, t.Change)}
	if m.Kind < api.MsgSource {
		return api.Message{}, api.ErrKind
	}
	for _, x := range t.Elements {
		read(&m, x)
	}
	again, e := Encode(m)
	if e != api.OK || !telegram.Same(again, t) {
		return api.Message{}, api.ErrSyntax
	}
	return m, api.OK
}

// read adds to m what an element says. A part that is missing is read as an empty one, and a text that is no number or name of anything as the zero value.
func read(m *api.Message, x api.Element) {
	var p [legParts]string
	copy(p[:], x.Parts)
	switch x.Key {
	case "V":
		m.Port, m.Number = strings.TrimPrefix(p[0], sender), number(p[1])
	case "I":
		m.In = readLeg(p)
	case "F":
		m.Out = readLeg(p)
	case "O":
		m.Onward = append(m.Onward, readLeg(p))
	case "N":
		m.First, _ = plate.Parse(p[0])
		m.Count = number(p[1])
	case "S":
		m.Load, m.Status, m.Sequence = p[0] == yes, find(states, p[1]), number(p[2])
	case "W":
		m.Weight = number(p[1])
	case "P":
		m.Surname, m.Given = p[0], p[1]
	case "X":
		m.Exception = find(exceptions, p[0])
	case "J":
		m.Node = p[0]
	case "B":
		for _, part := range x.Parts {
			m.List = append(m.List, number(part))
		}
	}
}

func readLeg(p [legParts]string) api.Leg {
	f, _ := flight.Parse(p[0] + slash + p[1])
	return api.Leg{Flight: f, Port: p[2], Class: p[3]}
}

func number(s string) int {
	n, _ := ascii.Value(s)
	return n
}
