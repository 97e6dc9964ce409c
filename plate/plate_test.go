package plate

import (
	"math"
	"slices"
	"testing"

	"baggage/api"
)

// valid has plates at the ends of all ranges and between them, with their texts, ascending.
var valid = []struct {
	p api.Plate
	s string
}{
	{api.Plate{Airline: 1}, "0001000000"},
	{api.Plate{Airline: 1, Serial: 1}, "0001000001"},
	{api.Plate{Airline: 1, Serial: 999999}, "0001999999"},
	{api.Plate{Airline: 10, Serial: 7}, "0010000007"},
	{api.Plate{Airline: 220, Serial: 123456}, "0220123456"},
	{api.Plate{Airline: 999}, "0999000000"},
	{api.Plate{Lead: 1, Airline: 1}, "1001000000"},
	{api.Plate{Lead: 5, Airline: 105, Serial: 100200}, "5105100200"},
	{api.Plate{Lead: 9, Airline: 999, Serial: 999999}, "9999999999"},
}

// invalid has plates of which exactly one part, or all, are out of range.
var invalid = []api.Plate{
	{},
	{Lead: 9, Serial: 999999},
	{Lead: -1, Airline: 1},
	{Lead: 10, Airline: 1},
	{Airline: -1},
	{Airline: 1000},
	{Airline: 1, Serial: -1},
	{Airline: 1, Serial: 1000000},
	{Lead: math.MinInt, Airline: 1},
	{Lead: math.MaxInt, Airline: 1},
	{Airline: math.MinInt},
	{Airline: math.MaxInt},
	{Airline: 1, Serial: math.MinInt},
	{Airline: 1, Serial: math.MaxInt},
	{Lead: math.MaxInt, Airline: math.MaxInt, Serial: math.MaxInt},
}

func TestTextsOfValidPlates(t *testing.T) { // P1.1
	for _, c := range valid {
		if !Valid(c.p) {
			t.Errorf("Valid(%v) is false", c.p)
		}
		if s := Format(c.p); s != c.s {
			t.Errorf("Format(%v) is %q, not %q", c.p, s, c.s)
		}
		if p, e := Parse(c.s); p != c.p || e != api.OK {
			t.Errorf("Parse(%q) is %v, %d", c.s, p, e)
		}
	}
}

func TestInvalidPlatesHaveNoText(t *testing.T) { // P1.1
	for _, p := range invalid {
		if Valid(p) {
			t.Errorf("Valid(%v) is true", p)
		}
		if s := Format(p); s != "" {
			t.Errorf("Format(%v) is %q", p, s)
		}
	}
}

func TestParseErrors(t *testing.T) { // P1.1
	for s, want := range map[string]api.Errno{
		"":                 api.ErrSyntax,
		"0":                api.ErrSyntax,
		"022012345":        api.ErrSyntax,
		"02201234567":      api.ErrSyntax,
		"00220123456":      api.ErrSyntax,
		"022012345?":       api.ErrSyntax,
		"022012345/":       api.ErrSyntax, // the byte before 0
		"022012345:":       api.ErrSyntax, // the byte after 9
		"/220123456":       api.ErrSyntax,
		"-220123456":       api.ErrSyntax,
		"+220123456":       api.ErrSyntax,
		"0+20123456":       api.ErrSyntax,
		"0220+23456":       api.ErrSyntax,
		"0220-23456":       api.ErrSyntax,
		"0220 12345":       api.ErrSyntax,
		" 220123456":       api.ErrSyntax,
		"0220123456\n":     api.ErrSyntax,
		"022012345\x00":    api.ErrSyntax,
		"0220_23456":       api.ErrSyntax,
		"0x20123456":       api.ErrSyntax,
		"022012345a":       api.ErrSyntax,
		"02201234\xd9\xa3": api.ErrSyntax, // a digit of another script, ten bytes in all
		"\xff\xff\xff\xff\xff\xff\xff\xff\xff\xff": api.ErrSyntax,
		"000012345?": api.ErrSyntax, // the syntax comes before the range
		"0000123456": api.ErrRange,
		"0000000000": api.ErrRange,
		"9000999999": api.ErrRange,
	} {
		if p, e := Parse(s); p != (api.Plate{}) || e != want {
			t.Errorf("Parse(%q) is %v, %d, not the error %d", s, p, e, want)
		}
	}
}

func TestTextsAndPlatesCorrespond(t *testing.T) { // P1.1
	for lead := range 10 {
		for airline := 1; airline <= 999; airline++ {
			p := api.Plate{Lead: lead, Airline: airline, Serial: (airline*1009 + lead*99991) % 1000000}
			if q, e := Parse(Format(p)); q != p || e != api.OK {
				t.Fatalf("Parse(Format(%v)) is %v, %d", p, q, e)
			}
		}
	}
	for serial := range 1000000 {
		p := api.Plate{Lead: serial % 10, Airline: 1 + serial%999, Serial: serial}
		if q, e := Parse(Format(p)); q != p || e != api.OK {
			t.Fatalf("Parse(Format(%v)) is %v, %d", p, q, e)
		}
	}
}

func TestCompare(t *testing.T) { // P1.2
	ascending := []api.Plate{
		{Lead: math.MinInt, Airline: math.MaxInt, Serial: math.MaxInt},
		{Lead: -1, Airline: 5},
		{Airline: math.MinInt},
		{Airline: -1, Serial: 7},
		{Serial: math.MinInt},
		{},
		{Serial: math.MaxInt},
		{Airline: 1},
		{Airline: 1, Serial: 999999},
		{Airline: 1, Serial: 1000000},
		{Airline: 2},
		{Airline: 1000},
		{Airline: math.MaxInt},
		{Lead: 1},
		{Lead: 9, Airline: 1, Serial: 3},
		{Lead: 10},
		{Lead: math.MaxInt},
	}
	for i, a := range ascending {
		for k, b := range ascending {
			want := 0
			if i < k {
				want = -1
			} else if i > k {
				want = 1
			}
			if c := Compare(a, b); c != want {
				t.Errorf("Compare(%v, %v) is %d, not %d", a, b, c, want)
			}
		}
	}
}

func TestPlatesAreOrderedAsTheirTexts(t *testing.T) { // P1.2
	for _, a := range valid {
		for _, b := range valid {
			want := 0
			if a.s < b.s {
				want = -1
			} else if a.s > b.s {
				want = 1
			}
			if c := Compare(a.p, b.p); c != want {
				t.Errorf("Compare(%v, %v) is %d, not %d", a.p, b.p, c, want)
			}
		}
	}
}

func TestCheck(t *testing.T) { // P1.2
	for _, c := range valid {
		n := (int64(c.p.Lead)*1000+int64(c.p.Airline))*1000000 + int64(c.p.Serial)
		if got := Check(c.p); int64(got) != n%7 {
			t.Errorf("Check(%v) is %d, not %d", c.p, got, n%7)
		}
	}
	for serial, want := range []int{1, 2, 3, 4, 5, 6, 0, 1} { // 1000000 mod 7 is 1
		if got := Check(api.Plate{Airline: 1, Serial: serial}); got != want {
			t.Errorf("Check with the serial number %d is %d, not %d", serial, got, want)
		}
	}
	for _, p := range append([]api.Plate{{Serial: 1}}, invalid...) {
		if got := Check(p); got != -1 {
			t.Errorf("Check(%v) is %d, not -1", p, got)
		}
	}
}

func TestRun(t *testing.T) { // P1.3
	for _, c := range []struct {
		p    api.Plate
		n    int
		want []string
	}{
		{api.Plate{Airline: 220, Serial: 5}, 1, []string{"0220000005"}},
		{api.Plate{Airline: 220, Serial: 8}, 3, []string{"0220000008", "0220000009", "0220000010"}},
		{api.Plate{Airline: 220, Serial: 999999}, 1, []string{"0220999999"}},
		{api.Plate{Airline: 220, Serial: 999999}, 2, []string{"0220999999", "0220000000"}},
		{api.Plate{Lead: 9, Airline: 999, Serial: 999998}, 4, []string{"9999999998", "9999999999", "9999000000", "9999000001"}},
	} {
		l, e := Run(c.p, c.n)
		if e != api.OK || !slices.Equal(texts(l), c.want) {
			t.Errorf("Run(%v, %d) is %v, %d", c.p, c.n, l, e)
		}
	}
}

func texts(l []api.Plate) []string {
	var s []string
	for _, p := range l {
		s = append(s, Format(p))
	}
	return s
}

func TestLongestRun(t *testing.T) { // P1.3
	l, e := Run(api.Plate{Lead: 2, Airline: 3, Serial: 999950}, api.MaxRun)
	if e != api.OK || len(l) != api.MaxRun {
		t.Fatalf("%d plates, %d", len(l), e)
	}
	for i, p := range l {
		if want := (api.Plate{Lead: 2, Airline: 3, Serial: (999950 + i) % 1000000}); p != want {
			t.Errorf("%d: %v, not %v", i, p, want)
		}
	}
}

func TestRunErrors(t *testing.T) { // P1.3
	for _, n := range []int{math.MinInt, -1, 0, api.MaxRun + 1, math.MaxInt} {
		if l, e := Run(api.Plate{Airline: 1}, n); len(l) != 0 || e != api.ErrRange {
			t.Errorf("Run of %d plates is %v, %d", n, l, e)
		}
	}
	for _, p := range invalid {
		for _, n := range []int{0, 1, api.MaxRun} {
			if l, e := Run(p, n); len(l) != 0 || e != api.ErrRange {
				t.Errorf("Run(%v, %d) is %v, %d", p, n, l, e)
			}
		}
	}
}

func TestRunsShareNoMemory(t *testing.T) { // P1.3, rule 2
	a, _ := Run(api.Plate{Airline: 1}, 3)
	b, _ := Run(api.Plate{Airline: 1}, 3)
	clear(a[:cap(a)])
	if !slices.Equal(texts(b), []string{"0001000000", "0001000001", "0001000002"}) {
		t.Error(b)
	}
}

func TestMatches(t *testing.T) { // P1.4
	p := api.Plate{Airline: 220, Serial: 123456}
	for _, s := range []string{"0220123456", "022012345?", "?220123456", "??????????", "02?01?34?6", "?2?0?2?4?6"} {
		if !Matches(s, p) {
			t.Errorf("%q does not match", s)
		}
	}
	for _, s := range []string{
		"", "?", "022012345", "?????????", "02201234567", "0220123456?", "???????????", // not ten bytes
		"022012345*", "?????????x", "?????????.", " ?????????", "?????????\x00", "?????????\xff", "?????????:", "????????\xd9\xa3", // not a pattern
		"1220123456", "0220123457", "1?????????", "?????????5", "????0?????", // another digit
	} {
		if Matches(s, p) {
			t.Errorf("%q matches", s)
		}
	}
	for _, p := range invalid {
		for _, s := range []string{"", "??????????", "0000000000", "0001000000"} {
			if Matches(s, p) {
				t.Errorf("%q matches %v", s, p)
			}
		}
	}
}

func TestEachPositionOfAPattern(t *testing.T) { // P1.4
	text := "5105100200"
	p, _ := Parse(text)
	for i := range len(text) {
		for c := range 256 {
			s := text[:i] + string([]byte{byte(c)}) + text[i+1:]
			want := byte(c) == text[i] || c == '?'
			if got := Matches(s, p); got != want {
				t.Errorf("Matches(%q) is %v", s, got)
			}
		}
	}
}

func TestPatternWithoutQuestionMarks(t *testing.T) { // P1.4
	for _, a := range valid {
		for _, b := range valid {
			if got := Matches(a.s, b.p); got != (a.s == b.s) {
				t.Errorf("Matches(%q, %v) is %v", a.s, b.p, got)
			}
		}
	}
}

func TestCandidates(t *testing.T) { // P1.4
	p := api.Plate{Airline: 220, Serial: 123456}
	l := []api.Plate{p, {}, {Airline: 220, Serial: 123457}, {Lead: 1, Airline: 220, Serial: 123456}, {Airline: 220, Serial: 1123456}, p}
	for s, want := range map[string][]int{
		"0220123456":  {0, 5},
		"?220123456":  {0, 3, 5},
		"022012345?":  {0, 2, 5},
		"??????????":  {0, 2, 3, 5},
		"0220123457":  {2},
		"0220123458":  nil,
		"022012345":   nil,
		"???????????": nil,
		"?????????x":  nil,
		"":            nil,
	} {
		if got := Candidates(s, l); !slices.Equal(got, want) {
			t.Errorf("Candidates(%q) is %v, not %v", s, got, want)
		}
		if got := Candidates(s, nil); len(got) != 0 {
			t.Errorf("Candidates(%q) of none is %v", s, got)
		}
	}
}

func TestCandidatesKeepTheirArguments(t *testing.T) { // P1.4, rule 2
	l := make([]api.Plate, 2, 4)
	l[0], l[1] = api.Plate{Airline: 1}, api.Plate{Airline: 2}
	l[:4][2] = api.Plate{Airline: 3}
	Candidates("??????????", l)
	if want := []api.Plate{{Airline: 1}, {Airline: 2}, {Airline: 3}, {}}; !slices.Equal(l[:4], want) {
		t.Error(l[:4])
	}
}

func TestDistance(t *testing.T) { // P1.4
	for _, c := range []struct {
		a, b string
		want int
	}{
		{"0220123456", "0220123456", 0},
		{"0220123456", "0220123457", 1},
		{"0220123456", "9220123456", 1},
		{"0220123456", "0221123456", 1},
		{"0220123456", "9220123451", 2},
		{"0220123456", "0220654321", 6},
		{"0220123456", "1331234567", 10},
		{"0001000009", "0001000010", 2},
	} {
		a, _ := Parse(c.a)
		b, _ := Parse(c.b)
		if got := Distance(a, b); got != c.want {
			t.Errorf("Distance(%s, %s) is %d, not %d", c.a, c.b, got, c.want)
		}
		if got := Distance(b, a); got != c.want {
			t.Errorf("Distance(%s, %s) is %d, not %d", c.b, c.a, got, c.want)
		}
	}
	for _, p := range invalid {
		for _, q := range []api.Plate{{Airline: 1}, {}, p} {
			if got := Distance(p, q); got != -1 {
				t.Errorf("Distance(%v, %v) is %d, not -1", p, q, got)
			}
			if got := Distance(q, p); got != -1 {
				t.Errorf("Distance(%v, %v) is %d, not -1", q, p, got)
			}
		}
	}
}
