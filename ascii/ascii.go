// Package ascii has what the texts of several layers consist of: capital letters, and decimal numbers with leading zeros.
package ascii

// most bounds the digits that Value reads, so that the number is exact also where an int has 32 bits.
const most = 9

// Letter reports whether c is a letter A to Z.
func Letter(c byte) bool {
	return c >= 'A' && c <= 'Z'
}

// Digit reports whether c is a decimal digit.
func Digit(c byte) bool {
	return c >= '0' && c <= '9'
}

// Letters reports whether s consists of n letters A to Z.
func Letters(s string, n int) bool {
	if len(s) != n {
		return false
	}
	for i := range len(s) {
		if !Letter(s[i]) {
			return false
		}
	}
	return true
}

// Value returns the number that s stands for, or false if s does not consist of 1 to 9 decimal digits.
func Value(s string) (int, bool) {
	if s == "" || len(s) > most {
		return 0, false
	}
	n := 0
	for i := range len(s) {
		if !Digit(s[i]) {
			return 0, false
		}
		n = n*10 + int(s[i]-'0')
	}
	return n, true
}

// Write fills text with the last digits of n, which is not negative. It goes from the last one on, so that zeros lead a small n.
func Write(text []byte, n int) {
	for i := range len(text) {
		text[len(text)-1-i] = byte('0' + n%10)
		n /= 10
	}
}
