package flight

import (
	"cmp"
	"math"
	"strings"
	"testing"

	"baggage/api"
	"baggage/ascii"
)

// valid has flights at the ends of all ranges and between them, with their designators and texts.
var valid = []struct {
	f             api.Flight
	designator, s string
}{
	{api.Flight{Carrier: "SK", Number: 123, Suffix: "A", Day: 7}, "SK0123A", "SK0123A/07"},
	{api.Flight{Carrier: "SK", Number: 123, Day: 7}, "SK0123", "SK0123/07"},
	{api.Flight{Carrier: "SK", Number: 123, Day: 8}, "SK0123", "SK0123/08"},
	{api.Flight{Carrier: "AA", Number: 1}, "AA0001", "AA0001/00"},
	{api.Flight{Carrier: "ZZ", Number: 9999, Suffix: "Z", Day: 99}, "ZZ9999Z", "ZZ9999Z/99"},
	{api.Flight{Carrier: "4U", Number: 9, Day: 1}, "4U0009", "4U0009/01"},
	{api.Flight{Carrier: "U4", Number: 10, Day: 10}, "U40010", "U40010/10"},
	{api.Flight{Carrier: "0A", Number: 100, Suffix: "A"}, "0A0100A", "0A0100A/00"},
	{api.Flight{Carrier: "A9", Number: 1000, Suffix: "M", Day: 31}, "A91000M", "A91000M/31"},
}

// invalid has flights of which exactly one part, or all, are not valid.
var invalid = []api.Flight{
	{},
	{Number: 1},
	{Carrier: "S", Number: 1},
	{Carrier: "SKX", Number: 1},
	{Carrier: "12", Number: 1},
	{Carrier: "sK", Number: 1},
	{Carrier: "Sk", Number: 1},
	{Carrier: "s1", Number: 1},
	{Carrier: "1s", Number: 1},
	{Carrier: "S ", Number: 1},
	{Carrier: " S", Number: 1},
	{Carrier: "S\x00", Number: 1},
	{Carrier: "S@", Number: 1}, // the byte before A
	{Carrier: "[S", Number: 1}, // the byte after Z
	{Carrier: "/S", Number: 1}, // the byte before 0
	{Carrier: "S:", Number: 1}, // the byte after 9
	{Carrier: "\xc3\x85", Number: 1},
	{Carrier: "SK"},
	{Carrier: "SK", Number: -1},
	{Carrier: "SK", Number: 10000},
	{Carrier: "SK", Number: math.MinInt},
	{Carrier: "SK", Number: math.MaxInt},
	{Carrier: "SK", Number: 1, Suffix: "AB"},
	{Carrier: "SK", Number: 1, Suffix: "a"},
	{Carrier: "SK", Number: 1, Suffix: "1"},
	{Carrier: "SK", Number: 1, Suffix: " "},
	{Carrier: "SK", Number: 1, Suffix: "\x00"},
	{Carrier: "SK", Number: 1, Suffix: "\xc3\x85"},
	{Carrier: "SK", Number: 1, Suffix: "/"},
	{Carrier: "SK", Number: 1, Day: -1},
	{Carrier: "SK", Number: 1, Day: api.MaxDay + 1},
	{Carrier: "SK", Number: 1, Day: math.MinInt},
	{Carrier: "SK", Number: 1, Day: math.MaxInt},
	{Carrier: "sk0", Number: math.MaxInt, Suffix: "??", Day: math.MinInt},
}

func TestValidFlights(t *testing.T) { // P2.1
	for _, c := range valid {
		if !Valid(c.f) {
			t.Errorf("Valid(%v) is false", c.f)
		}
		if s := Designator(c.f); s != c.designator {
			t.Errorf("Designator(%v) is %q, not %q", c.f, s, c.designator)
		}
		if s := Format(c.f); s != c.s {
			t.Errorf("Format(%v) is %q, not %q", c.f, s, c.s)
		}
	}
}

func TestInvalidFlightsHaveNoTexts(t *testing.T) { // P2.1
	for _, f := range invalid {
		if Valid(f) {
			t.Errorf("Valid(%v) is true", f)
		}
		if s := Designator(f); s != "" {
			t.Errorf("Designator(%v) is %q", f, s)
		}
		if s := Format(f); s != "" {
			t.Errorf("Format(%v) is %q", f, s)
		}
	}
}

func TestEachCarrierOfTwoBytes(t *testing.T) { // P2.1
	const letters, digits = "ABCDEFGHIJKLMNOPQRSTUVWXYZ", "0123456789"
	for a := range 256 {
		for b := range 256 {
			s := string([]byte{byte(a), byte(b)})
			form := strings.IndexByte(letters+digits, s[0]) >= 0 && strings.IndexByte(letters+digits, s[1]) >= 0
			want := form && strings.ContainsAny(s, letters)
			if got := Valid(api.Flight{Carrier: s, Number: 1}); got != want {
				t.Errorf("Valid with the carrier %q is %v", s, got)
			}
		}
	}
}

func TestEachSuffixOfOneByte(t *testing.T) { // P2.1
	for c := range 256 {
		s := string([]byte{byte(c)})
		want := c >= 'A' && c <= 'Z'
		if got := Valid(api.Flight{Carrier: "SK", Number: 1, Suffix: s}); got != want {
			t.Errorf("Valid with the suffix %q is %v", s, got)
		}
	}
}

func TestPorts(t *testing.T) { // P2.1
	for _, s := range []string{"ARN", "AAA", "ZZZ", "AZM"} {
		if !ValidPort(s) {
			t.Errorf("%q is no port", s)
		}
	}
	for _, s := range []string{"", "A", "AR", "ARNX", "ARNARN", "arn", "ArN", "AR1", "1RN", "A N", "ARN ", "AR\x00", "AR\xff", "A\xc3\x85", "@RN", "AR["} {
		if ValidPort(s) {
			t.Errorf("%q is a port", s)
		}
	}
	for i := range 3 {
		for c := range 256 {
			s := "ARN"[:i] + string([]byte{byte(c)}) + "ARN"[i+1:]
			want := c >= 'A' && c <= 'Z'
			if got := ValidPort(s); got != want {
				t.Errorf("ValidPort(%q) is %v", s, got)
			}
		}
	}
}

func TestLegs(t *testing.T) { // P2.1
	for _, c := range valid {
		for _, class := range []string{"F", "C", "Y"} {
			if g := (api.Leg{Flight: c.f, Port: "ARN", Class: class}); !ValidLeg(g) {
				t.Errorf("ValidLeg(%v) is false", g)
			}
		}
	}
}

func TestInvalidLegs(t *testing.T) { // P2.1
	f := valid[0].f
	legs := []api.Leg{{}, {Port: "ARN", Class: "Y"}, {Flight: f}, {Flight: f, Port: "ARN"}, {Flight: f, Class: "Y"}}
	for _, f := range invalid {
		legs = append(legs, api.Leg{Flight: f, Port: "ARN", Class: "Y"})
	}
	for _, s := range []string{"AR", "ARNX", "arn", "AR1"} {
		legs = append(legs, api.Leg{Flight: f, Port: s, Class: "Y"})
	}
	for _, s := range []string{"f", "c", "y", "X", "FC", "CY", "FCY", "YY", "Y ", " Y", "1", "\x00", "\xff"} {
		legs = append(legs, api.Leg{Flight: f, Port: "ARN", Class: s})
	}
	for _, g := range legs {
		if ValidLeg(g) {
			t.Errorf("ValidLeg(%v) is true", g)
		}
	}
}

func TestParse(t *testing.T) { // P2.2
	for _, c := range valid {
		if f, e := Parse(c.s); f != c.f || e != api.OK {
			t.Errorf("Parse(%q) is %v, %d", c.s, f, e)
		}
	}
}

func TestParseErrors(t *testing.T) { // P2.2
	for _, s := range []string{
		"", "/", "S", "SK", "/07", "SK/07", "SK0123", "SK0123/", "SK0123A", "SK0123A/", // something is missing
		"SK123/07", "SK012/07", "SK01234/07", "SK00123/07", // not four digits
		"SK0123/7", "SK0123/007", "SK0123/107", "SK0123A/7", "SK0123A/007", // not two digits
		"SK0123AB/07", "SK0123a/07", "SK01231/07", "SK0123 /07", "SK0123-/07", "SK0123\xc3\x85/07", // no suffix
		"S0123/07", "S 0123/07", "SKX0123/07", "120123/07", "12 0123/07", "sK0123/07", "S-0123/07", "\xc3\x850123/07", // no carrier
		"SK 123/07", "SK+123/07", "SK-123/07", "SK0x23/07", "SK01.3/07", "SK01_3/07", // no number
		"SK0123/+7", "SK0123/-7", "SK0123/ 7", "SK0123/7 ", "SK0123/0x", "SK0123/0?", // no day
		"SK0123-07", "SK0123 07", "SK0123A07", "SK012307", "SK0123//07", "SK0123/07/", "SK0123/0/", "SK0123//7", "SK/0123/07", "/SK0123/07", // not one slash
		" SK0123/07", "SK0123/07 ", "SK0123/07\n", "\x00SK0123/07", "SK0123/07\x00", // something around it
		"120000/07", "SK0000/7", "SK0000a/07", "SK0000-07", "SK000/07", "SK00000/07", // the form comes before the range
	} {
		if f, e := Parse(s); f != (api.Flight{}) || e != api.ErrSyntax {
			t.Errorf("Parse(%q) is %v, %d", s, f, e)
		}
	}
	for _, s := range []string{"SK0000/07", "SK0000A/07", "4U0000/00", "Z90000Z/99"} {
		if f, e := Parse(s); f != (api.Flight{}) || e != api.ErrRange {
			t.Errorf("Parse(%q) is %v, %d", s, f, e)
		}
	}
}

func TestEachByteOfAText(t *testing.T) { // P2.2
	text, form := "SK1234A/07", "cc9999A/99"
	for i := range len(text) {
		for c := range 256 {
			s := text[:i] + string([]byte{byte(c)}) + text[i+1:]
			want := byte(c) == '/'
			switch form[i] {
			case 'c': // one of the two is a letter here
				want = ascii.Letter(byte(c)) || ascii.Digit(byte(c))
			case '9':
				want = ascii.Digit(byte(c))
			case 'A':
				want = ascii.Letter(byte(c))
			}
			f, e := Parse(s)
			if want && (e != api.OK || Format(f) != s) || !want && (e != api.ErrSyntax || f != api.Flight{}) {
				t.Errorf("Parse(%q) is %v, %d", s, f, e)
			}
		}
	}
}

func TestTextsAndFlightsCorrespond(t *testing.T) { // P2.1, P2.2
	for number := 1; number <= 9999; number++ {
		for _, suffix := range []string{"", "A", "Z"} {
			f := api.Flight{Carrier: "K7", Number: number, Suffix: suffix, Day: number % 100}
			if g, e := Parse(Format(f)); g != f || e != api.OK {
				t.Fatalf("Parse(Format(%v)) is %v, %d", f, g, e)
			}
		}
	}
}

func TestCompare(t *testing.T) { // P2.3
	ascending := []api.Flight{
		{Number: math.MinInt, Suffix: "Z", Day: 9},
		{Day: math.MinInt},
		{Day: -1},
		{},
		{Day: math.MaxInt},
		{Suffix: "A"},
		{Number: math.MaxInt},
		{Carrier: "4U", Number: 9, Day: 1},
		{Carrier: "S", Number: 99999, Suffix: "Z", Day: 99},
		{Carrier: "SK", Number: -1},
		{Carrier: "SK", Number: 1},
		{Carrier: "SK", Number: 1, Day: 1},
		{Carrier: "SK", Number: 1, Suffix: "A", Day: -1},
		{Carrier: "SK", Number: 1, Suffix: "A"},
		{Carrier: "SK", Number: 1, Suffix: "AA"},
		{Carrier: "SK", Number: 1, Suffix: "B"},
		{Carrier: "SK", Number: 1, Suffix: "a"},
		{Carrier: "SK", Number: 1, Suffix: "\xff"},
		{Carrier: "SK", Number: 9},
		{Carrier: "SK", Number: 10},
		{Carrier: "SKX"},
		{Carrier: "s"},
		{Carrier: "\xc3\x85"},
	}
	for i, a := range ascending {
		for k, b := range ascending {
			if c := Compare(a, b); c != cmp.Compare(i, k) {
				t.Errorf("Compare(%v, %v) is %d, not %d", a, b, c, cmp.Compare(i, k))
			}
		}
	}
}

func TestTheSameDesignatorOnDifferentDays(t *testing.T) { // P2.1, P2.3
	a, b := valid[1].f, valid[2].f
	if Designator(a) != Designator(b) || Format(a) == Format(b) || Compare(a, b) != -1 {
		t.Errorf("%q and %q", Format(a), Format(b))
	}
}
