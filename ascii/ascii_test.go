package ascii

import (
	"strconv"
	"testing"
)

func TestLettersAndDigitsAmongAllBytes(t *testing.T) {
	for c := range 256 {
		if got, want := Letter(byte(c)), c >= 65 && c <= 90; got != want {
			t.Errorf("Letter(%d) is %v", c, got)
		}
		if got, want := Digit(byte(c)), c >= 48 && c <= 57; got != want {
			t.Errorf("Digit(%d) is %v", c, got)
		}
	}
}

func TestLetters(t *testing.T) {
	for _, c := range []struct {
		s    string
		n    int
		want bool
	}{
		{"", 0, true}, {"A", 1, true}, {"ARN", 3, true},
		{"", 1, false}, {"A", 0, false}, {"ARN", 2, false}, {"ARN", 4, false}, {"", -1, false},
		{"aRN", 3, false}, {"A1N", 3, false}, {"AR ", 3, false}, {"\xc3\x85", 2, false}, {"\xc3\x85", 1, false},
	} {
		if got := Letters(c.s, c.n); got != c.want {
			t.Errorf("Letters(%q, %d) is %v", c.s, c.n, got)
		}
	}
}

func TestValue(t *testing.T) {
	for s, want := range map[string]int{"0": 0, "7": 7, "007": 7, "000": 0, "10": 10, "000000001": 1, "999999999": 999999999} {
		if n, ok := Value(s); n != want || !ok {
			t.Errorf("Value(%q) is %d, %v", s, n, ok)
		}
	}
	for _, s := range []string{"", "0000000000", "1000000000", "-1", "+1", " 1", "1 ", "1_0", "0x1", "1.0", "1a", "/", ":", "\xd9\xa3"} {
		if n, ok := Value(s); n != 0 || ok {
			t.Errorf("Value(%q) is %d, %v", s, n, ok)
		}
	}
}

func TestWrite(t *testing.T) {
	for _, c := range []struct {
		n, width int
		want     string
	}{
		{0, 1, "0"}, {0, 3, "000"}, {7, 2, "07"}, {42, 2, "42"}, {123, 6, "000123"}, {999999, 6, "999999"}, {1234, 2, "34"}, {5, 0, ""},
	} {
		text := make([]byte, c.width)
		if Write(text, c.n); string(text) != c.want {
			t.Errorf("Write of %d with %d digits gives %q", c.n, c.width, text)
		}
	}
}

func TestValueReadsWhatWriteWrote(t *testing.T) {
	var text [4]byte
	for n := range 10000 {
		Write(text[:], n)
		if got, ok := Value(string(text[:])); got != n || !ok {
			t.Fatalf("%s: %d, %v", text, got, ok)
		}
		if n >= 1000 && string(text[:]) != strconv.Itoa(n) {
			t.Fatalf("%d: %s", n, text)
		}
	}
}
