package telegram

import (
	"regexp"
	"slices"
	"strings"
	"testing"

	"baggage/api"
)

func lines(l ...string) string { return strings.Join(l, "\n") + "\n" }

func element(key string, parts ...string) api.Element {
	return api.Element{Key: key, Parts: parts}
}

func telegram(kind, change string, l ...api.Element) api.Telegram {
	return api.Telegram{Kind: kind, Change: change, Elements: l}
}

// repeated returns n elements of m parts each.
func repeated(n, m int, part string) []api.Element {
	var l []api.Element
	for range n {
		l = append(l, element("F", slices.Repeat([]string{part}, m)...))
	}
	return l
}

var (
	longest  = strings.Repeat("A", api.MaxPart)
	alphabet = "ABCDEFGHIJKLMNOPQRSTUVWXYZ0123456789 -+"
)

// valid has telegrams with their texts; kinds and parts that look like other lines are among them.
var valid = []struct {
	t api.Telegram
	s string
}{
	{telegram("BSM", "", element("F", "SK0123", "07")), "BSM\n.F/SK0123/07\nENDBSM\n"},
	{telegram("BSM", ""), "BSM\nENDBSM\n"},
	{telegram("BSM", "CHG"), "BSM\nCHG\nENDBSM\n"},
	{telegram("BTM", "DEL"), "BTM\nDEL\nENDBTM\n"},
	{telegram("AZM", "DEL", element("A", "1"), element("Z", "2"), element("A", "1")), "AZM\nDEL\n.A/1\n.Z/2\n.A/1\nENDAZM\n"},
	{telegram("END", ""), "END\nENDEND\n"},
	{telegram("END", "DEL", element("E", "END")), "END\nDEL\n.E/END\nENDEND\n"},
	{telegram("CHG", ""), "CHG\nENDCHG\n"},
	{telegram("CHG", "CHG"), "CHG\nCHG\nENDCHG\n"},
	{telegram("CHG", "DEL"), "CHG\nDEL\nENDCHG\n"},
	{telegram("DEL", "", element("D", "")), "DEL\n.D/\nENDDEL\n"},
	{telegram("XYZ", "CHG", element("A", "", ""), element("B", "", "X", "")), "XYZ\nCHG\n.A//\n.B//X/\nENDXYZ\n"},
	{telegram("XYZ", "", element("P", " ", "-", "+", "0 9-A+Z", "  ")), "XYZ\n.P/ /-/+/0 9-A+Z/  \nENDXYZ\n"},
	{telegram("XYZ", "", element("P", alphabet[:20], alphabet[20:])), "XYZ\n.P/" + alphabet[:20] + "/" + alphabet[20:] + "\nENDXYZ\n"},
	{telegram("XYZ", "", element("P", longest)), "XYZ\n.P/" + longest + "\nENDXYZ\n"},
	{telegram("XYZ", "", repeated(1, api.MaxParts, longest)...), "XYZ\n.F" + strings.Repeat("/"+longest, api.MaxParts) + "\nENDXYZ\n"},
	{telegram("XYZ", "", repeated(api.MaxElements, 1, "")...), "XYZ\n" + strings.Repeat(".F/\n", api.MaxElements) + "ENDXYZ\n"},
	{telegram("XYZ", "CHG", repeated(api.MaxElements, api.MaxParts, "7")...), "XYZ\nCHG\n" + strings.Repeat(".F/7/7/7/7/7/7/7/7\n", api.MaxElements) + "ENDXYZ\n"},
}

func TestTextsOfValidTelegrams(t *testing.T) { // P3.1, P3.2
	for _, c := range valid {
		if e := Validate(c.t); e != api.OK {
			t.Errorf("Validate of %q is %d", c.s, e)
		}
		if s, e := Format(c.t); s != c.s || e != api.OK {
			t.Errorf("Format is %q, %d, not %q", s, e, c.s)
		}
		if got, line, e := Parse(c.s); !Same(got, c.t) || line != 0 || e != api.OK {
			t.Errorf("Parse(%q) is %v, %d, %d", c.s, got, line, e)
		}
	}
}

func TestNoBeginningOfATextIsAText(t *testing.T) { // P3.2
	for _, c := range valid {
		for i := range len(c.s) {
			s := c.s[:i]
			got, line, e := Parse(s)
			if want := strings.Count(s, "\n") + 1; !empty(got) || line != want || e != api.ErrSyntax {
				t.Errorf("Parse(%q) is %v, %d, %d", s, got, line, e)
			}
		}
	}
}

// empty reports whether t is zero, without the help of Same.
func empty(t api.Telegram) bool {
	return t.Kind == "" && t.Change == "" && len(t.Elements) == 0
}

// malformed returns telegrams that are wrong in one place, within all limits.
func malformed() []api.Telegram {
	l := []api.Telegram{{}, {Change: "CHG"}}
	for _, s := range []string{"B", "BS", "BSMX", "bSM", "BsM", "BSm", "B1M", "BS ", " BSM", "BSM\n", "B\nM", "BS\x00", "BS\xff", "B\xc3\x85", "@SM", "BS["} {
		l = append(l, telegram(s, ""))
	}
	for _, s := range []string{"NEW", "chg", "CHGX", "CH", " ", "DEL ", "DELCHG", "CHG\n", "END", "\x00"} {
		l = append(l, telegram("BSM", s))
	}
	for _, s := range []string{"", "f", "1", " ", "FF", "F ", ".", "/", "\n", "\x00", "\xff", "@", "[", ".F"} {
		l = append(l, telegram("BSM", "", element(s, "A")))
	}
	for _, s := range []string{"a", "_", "/", "A/B", "A\n", "\n", "\r", ".", "A.", "\x00", "\t", "\xff", "\xc3\x85", ",", "*", ":", "@", "["} {
		l = append(l, telegram("BSM", "", element("F", s)), telegram("BSM", "", element("F", "A", "B", s)), telegram("BSM", "CHG", element("F", "A"), element("F", "A"+s)))
	}
	return append(l, telegram("BSM", "", element("F")), telegram("BSM", "", element("F", "A"), api.Element{Key: "F", Parts: []string{}}))
}

func TestTelegramsWithoutTheirForm(t *testing.T) { // P3.1
	for _, x := range malformed() {
		checkInvalid(t, x, api.ErrSyntax)
	}
}

func checkInvalid(t *testing.T, x api.Telegram, want api.Errno) {
	t.Helper()
	if e := Validate(x); e != want {
		t.Errorf("Validate(%.80q) is %d, not %d", x, e, want)
	}
	if s, e := Format(x); s != "" || e != want {
		t.Errorf("Format(%.80q) is %q, %d, not %d", x, s, e, want)
	}
}

func TestEachByteOfATelegram(t *testing.T) { // P3.1
	for c := range 256 {
		s := string([]byte{byte(c)})
		letter := c >= 'A' && c <= 'Z'
		for _, x := range []struct {
			t    api.Telegram
			good bool
		}{
			{telegram(s+"SM", ""), letter}, {telegram("B"+s+"M", ""), letter}, {telegram("BS"+s, ""), letter},
			{telegram("BSM", "", element(s, "A")), letter},
			{telegram("BSM", "", element("F", s)), strings.Contains(alphabet, s)},
			{telegram("BSM", "", element("F", "A", "B"+s+"C")), strings.Contains(alphabet, s)},
		} {
			if x.good != (Validate(x.t) == api.OK) {
				t.Errorf("Validate(%q) is %d", x.t, Validate(x.t))
			}
		}
	}
}

func TestTelegramsBeyondTheLimits(t *testing.T) { // P3.1
	for _, x := range []api.Telegram{
		telegram("BSM", "", repeated(api.MaxElements+1, 1, "")...),
		telegram("BSM", "", repeated(1000, 1, "A")...),
		telegram("BSM", "DEL", repeated(1, api.MaxParts+1, "")...),
		telegram("BSM", "", element("F", "A"), element("F", slices.Repeat([]string{"A"}, 1000)...)),
		telegram("BSM", "", element("F", longest+"A")),
		telegram("BSM", "", element("F", "A", "B"), element("G", "A", strings.Repeat(" ", 100000))),
		telegram("BSM", "", repeated(api.MaxElements, api.MaxParts, longest)...),
	} {
		checkInvalid(t, x, api.ErrLimit)
	}
}

func TestSyntaxComesBeforeLimits(t *testing.T) { // P3.1
	for _, x := range []api.Telegram{
		telegram("BS", "", repeated(api.MaxElements+1, 1, "A")...),
		telegram("BSM", "NEW", repeated(api.MaxElements+1, 1, "A")...),
		telegram("BSM", "", append(repeated(api.MaxElements, 1, "A"), element("F", "a"))...),
		telegram("BSM", "", append(repeated(api.MaxElements, 1, "A"), element("F"))...),
		telegram("BSM", "", append(repeated(api.MaxElements+7, 1, "A"), element("f", "A"))...),
		telegram("BSM", "", append(repeated(1, api.MaxParts+1, "A"), element("F", "a"))...),
		telegram("BSM", "", append(repeated(1, 1, longest+"A"), element("F", "a"))...),
		telegram("BSM", "", append(repeated(api.MaxElements-1, api.MaxParts, longest), element("F", "a"))...),
		telegram("BSM", "", element("F", longest+"a")),
		telegram("BSM", "", element("F", longest+"A", "_")),
		telegram("BSM", "", element("F", append(slices.Repeat([]string{"A"}, api.MaxParts), "_")...)),
	} {
		checkInvalid(t, x, api.ErrSyntax)
	}
}

// exact returns a telegram with a text of n bytes: one that is a little shorter, and as many more parts as needed.
func exact(n int) api.Telegram {
	x := telegram("BSM", "CHG", repeated(13, 7, longest)...)
	size := len("BSM\nCHG\nENDBSM\n") + 13*(len(".F\n")+7*(api.MaxPart+1))
	for i := 0; size < n; i++ {
		k := min(n-size-1, api.MaxPart)
		x.Elements[i].Parts = append(x.Elements[i].Parts, longest[:k])
		size += k + 1
	}
	return x
}

func TestLongestText(t *testing.T) { // P3.1, P3.2
	for n := api.MaxText - 30; n <= api.MaxText; n++ {
		x := exact(n)
		s, e := Format(x)
		if len(s) != n || e != api.OK || Validate(x) != api.OK {
			t.Fatalf("%d bytes, not %d: %d, %d", len(s), n, e, Validate(x))
		}
		if got, line, e := Parse(s); !Same(got, x) || line != 0 || e != api.OK {
			t.Errorf("%d bytes: %d, %d", n, line, e)
		}
	}
	for n := api.MaxText + 1; n <= api.MaxText+30; n++ {
		checkInvalid(t, exact(n), api.ErrLimit)
	}
}

func TestTooLongTextsAreNotRead(t *testing.T) { // P3.2
	for _, s := range []string{
		strings.Repeat("x", api.MaxText+1),
		strings.Repeat("\n", api.MaxText+1),
		strings.Repeat("BSM\n", 100000),
		"BSM\n" + strings.Repeat(".F/"+longest+"\n", 100),
		valid[0].s + strings.Repeat("x", api.MaxText),
		"BSM\n.F" + strings.Repeat("/A", api.MaxText/2) + "\nENDBSM\n",
	} {
		if got, line, e := Parse(s); !empty(got) || line != 0 || e != api.ErrLimit {
			t.Errorf("Parse(%.20q..) is %v, %d, %d", s, got, line, e)
		}
	}
	if _, line, e := Parse(strings.Repeat("x", api.MaxText)); line != 1 || e != api.ErrSyntax {
		t.Errorf("MaxText bytes: %d, %d", line, e)
	}
	if _, line, e := Parse("BSM\n.F/" + strings.Repeat("A", api.MaxText-8) + "\n"); line != 2 || e != api.ErrLimit {
		t.Errorf("MaxText bytes: %d, %d", line, e)
	}
}

func TestParseErrors(t *testing.T) { // P3.2
	tooLong := longest + "A"
	tooMany := ".F" + strings.Repeat("/A", api.MaxParts+1)
	full := "BSM\n" + strings.Repeat(".F/A\n", api.MaxElements)
	for _, c := range []struct {
		s    string
		line int
		e    api.Errno
	}{
		// the first line
		{"", 1, api.ErrSyntax}, {"\n", 1, api.ErrSyntax}, {"BSM", 1, api.ErrSyntax}, {"x", 1, api.ErrSyntax},
		{lines("BS", "ENDBS"), 1, api.ErrSyntax}, {lines("BSMX", "ENDBSMX"), 1, api.ErrSyntax}, {lines("bsm", "ENDbsm"), 1, api.ErrSyntax},
		{lines("B1M", "ENDB1M"), 1, api.ErrSyntax}, {lines(" BSM", "ENDBSM"), 1, api.ErrSyntax}, {lines("", "BSM", "ENDBSM"), 1, api.ErrSyntax},
		{lines("ENDBSM"), 1, api.ErrSyntax}, {lines("ENDEND"), 1, api.ErrSyntax}, {lines(".F/A", "ENDBSM"), 1, api.ErrSyntax}, {"BSM\r\nENDBSM\r\n", 1, api.ErrSyntax},
		// no end
		{lines("BSM"), 2, api.ErrSyntax}, {lines("END"), 2, api.ErrSyntax}, {lines("BSM", "CHG"), 3, api.ErrSyntax}, {lines("BSM", ".F/A"), 3, api.ErrSyntax},
		{lines("END", "DEL"), 3, api.ErrSyntax}, {lines("BSM", "CHG", ".F/A", ".F/A"), 5, api.ErrSyntax}, {full, api.MaxElements + 2, api.ErrSyntax},
		// an end that does not fit
		{lines("BSM", "ENDBTM"), 2, api.ErrSyntax}, {lines("BSM", "END"), 2, api.ErrSyntax}, {lines("BSM", "ENDBSMX"), 2, api.ErrSyntax}, {lines("BSM", "END BSM"), 2, api.ErrSyntax},
		{lines("BSM", "ENDBS"), 2, api.ErrSyntax}, {lines("BSM", "endBSM"), 2, api.ErrSyntax}, {lines("BSM", "END", "BSM"), 2, api.ErrSyntax}, {lines("CHG", "ENDDEL"), 2, api.ErrSyntax},
		{lines("BSM", "CHG", "ENDCHG"), 3, api.ErrSyntax}, {lines("BSM", ".F/A", "ENDBSM "), 3, api.ErrSyntax}, {"BSM\nENDBSM\r\n", 2, api.ErrSyntax},
		// lines after the end
		{lines("BSM", "ENDBSM", ""), 3, api.ErrSyntax}, {lines("BSM", "ENDBSM") + "x", 3, api.ErrSyntax}, {lines("BSM", "ENDBSM", "ENDBSM"), 3, api.ErrSyntax},
		{lines("BSM", "ENDBSM", ".F/A"), 3, api.ErrSyntax}, {lines("BSM", "CHG", ".F/A", "ENDBSM", "BSM", "ENDBSM"), 5, api.ErrSyntax},
		{lines("BSM", "ENDBSM", tooMany), 3, api.ErrSyntax}, {lines("BSM", "ENDBSM", ".F/"+tooLong), 3, api.ErrSyntax}, {lines("BSM", "ENDBSM", "DEL"), 3, api.ErrSyntax},
		// changes
		{lines("BSM", "CHX", "ENDBSM"), 2, api.ErrSyntax}, {lines("BSM", "NEW", "ENDBSM"), 2, api.ErrSyntax}, {lines("BSM", "chg", "ENDBSM"), 2, api.ErrSyntax}, {lines("BSM", "", "ENDBSM"), 2, api.ErrSyntax},
		{lines("BSM", "CHGDEL", "ENDBSM"), 2, api.ErrSyntax}, {lines("BSM", "CHG ", "ENDBSM"), 2, api.ErrSyntax}, {lines("BSM", "BSM", "ENDBSM"), 2, api.ErrSyntax},
		{lines("BSM", "CHG", "CHG", "ENDBSM"), 3, api.ErrSyntax}, {lines("BSM", "CHG", "DEL", "ENDBSM"), 3, api.ErrSyntax}, {lines("BSM", ".F/A", "CHG", "ENDBSM"), 3, api.ErrSyntax},
		{lines("CHG", ".F/A", "CHG", "ENDCHG"), 3, api.ErrSyntax}, {lines("DEL", "DEL", "DEL", "ENDDEL"), 3, api.ErrSyntax},
		// elements without their form
		{lines("BSM", ".F", "ENDBSM"), 2, api.ErrSyntax}, {lines("BSM", ".", "ENDBSM"), 2, api.ErrSyntax}, {lines("BSM", "./", "ENDBSM"), 2, api.ErrSyntax}, {lines("BSM", "./A", "ENDBSM"), 2, api.ErrSyntax},
		{lines("BSM", "F/A", "ENDBSM"), 2, api.ErrSyntax}, {lines("BSM", "/A", "ENDBSM"), 2, api.ErrSyntax}, {lines("BSM", "..F/A", "ENDBSM"), 2, api.ErrSyntax}, {lines("BSM", " .F/A", "ENDBSM"), 2, api.ErrSyntax},
		{lines("BSM", ".f/A", "ENDBSM"), 2, api.ErrSyntax}, {lines("BSM", ".1/A", "ENDBSM"), 2, api.ErrSyntax}, {lines("BSM", ".FF/A", "ENDBSM"), 2, api.ErrSyntax}, {lines("BSM", ".F /A", "ENDBSM"), 2, api.ErrSyntax},
		{lines("BSM", ".F/a", "ENDBSM"), 2, api.ErrSyntax}, {lines("BSM", ".F/A/_", "ENDBSM"), 2, api.ErrSyntax}, {lines("BSM", ".F/A.", "ENDBSM"), 2, api.ErrSyntax}, {lines("BSM", ".F/\xc3\x85", "ENDBSM"), 2, api.ErrSyntax},
		{lines("BSM", ".FA", "ENDBSM"), 2, api.ErrSyntax}, {lines("BSM", ".F:A", "ENDBSM"), 2, api.ErrSyntax}, {"BSM\n.F/A\r\nENDBSM\n", 2, api.ErrSyntax}, {"BSM\n.F/A\x00\nENDBSM\n", 2, api.ErrSyntax},
		{lines("BSM", ".F/A", "", "ENDBSM"), 3, api.ErrSyntax}, {lines("BSM", ".F/A", ".F", ".f/A"), 3, api.ErrSyntax},
		// limits
		{lines("BSM", ".F/"+tooLong, "ENDBSM"), 2, api.ErrLimit}, {lines("BSM", ".F/A/B/"+tooLong+"/", "ENDBSM"), 2, api.ErrLimit}, {lines("BSM", tooMany, "ENDBSM"), 2, api.ErrLimit},
		{lines("BSM", ".F"+strings.Repeat("/", api.MaxParts+1), "ENDBSM"), 2, api.ErrLimit}, {lines("BSM", "DEL", ".F/A", tooMany, "ENDBSM"), 4, api.ErrLimit},
		{full + lines(".F/A", "ENDBSM"), api.MaxElements + 2, api.ErrLimit}, {full + lines(".F/A"), api.MaxElements + 2, api.ErrLimit},
		{"BSM\nCHG\n" + full[4:] + lines(".F/A", "ENDBSM"), api.MaxElements + 3, api.ErrLimit}, {full + lines(tooMany), api.MaxElements + 2, api.ErrLimit},
		// in one line, the syntax comes first
		{lines("BSM", ".F/"+tooLong+"_", "ENDBSM"), 2, api.ErrSyntax}, {lines("BSM", ".F/"+tooLong+"/_", "ENDBSM"), 2, api.ErrSyntax}, {lines("BSM", tooMany+"/_", "ENDBSM"), 2, api.ErrSyntax}, {lines("BSM", ".f/"+tooLong, "ENDBSM"), 2, api.ErrSyntax},
		{"BSM\n.F/" + tooLong, 2, api.ErrSyntax}, {"BSM\n" + tooMany, 2, api.ErrSyntax}, {full + ".F/A", api.MaxElements + 2, api.ErrSyntax}, {full + ".F\n", api.MaxElements + 2, api.ErrSyntax}, {full + "CHG\n", api.MaxElements + 2, api.ErrSyntax},
		// of several lines, the first one counts
		{lines("BSM", ".F/"+tooLong, "x"), 2, api.ErrLimit}, {lines("BSM", ".F/"+tooLong), 2, api.ErrLimit}, {lines("BSM", ".F", ".F/"+tooLong), 2, api.ErrSyntax}, {lines("bsm", tooMany), 1, api.ErrSyntax}, {lines("BSM", tooMany) + "x", 2, api.ErrLimit},
	} {
		if got, line, e := Parse(c.s); !empty(got) || line != c.line || e != c.e {
			t.Errorf("Parse(%q) is %v, %d, %d, not %d, %d", c.s, got, line, e, c.line, c.e)
		}
	}
}

var (
	first = regexp.MustCompile(`^[A-Z]{3}\n$`)
	form  = regexp.MustCompile(`^\.[A-Z](/[A-Z0-9 +-]*)+\n$`)
	fits  = regexp.MustCompile(`^\.[A-Z](/[^/]{0,20}){1,8}\n$`)
)

// judge applies the rules for lines one by one, as the chapter lists them.
func judge(s string) (int, api.Errno) {
	l := strings.SplitAfter(s, "\n")
	l = l[:len(l)-1+min(1, len(l[len(l)-1]))]
	elements, last := 0, false
	for i, line := range l {
		switch {
		case last || !strings.HasSuffix(line, "\n"):
			return i + 1, api.ErrSyntax
		case i == 0:
			if !first.MatchString(line) {
				return 1, api.ErrSyntax
			}
		case i == 1 && (line == "CHG\n" || line == "DEL\n"):
		case line == "END"+l[0]:
			last = true
		case !form.MatchString(line):
			return i + 1, api.ErrSyntax
		case !fits.MatchString(line) || elements == 24:
			return i + 1, api.ErrLimit
		default:
			elements++
		}
	}
	if !last {
		return len(l) + 1, api.ErrSyntax
	}
	return 0, api.OK
}

func checkParse(t *testing.T, s string) {
	t.Helper()
	wantLine, want := judge(s)
	got, line, e := Parse(s)
	if line != wantLine || e != want {
		t.Fatalf("Parse(%q) is %d, %d, not %d, %d", s, line, e, wantLine, want)
	}
	if e != api.OK && !empty(got) {
		t.Fatalf("Parse(%q) is %v with an error", s, got)
	}
	if e == api.OK {
		if text, e := Format(got); text != s || e != api.OK {
			t.Fatalf("Format of Parse(%q) is %q, %d", s, text, e)
		}
	}
}

func TestSequencesOfLines(t *testing.T) { // P3.2
	l := []string{"BSM\n", "END\n", "CHG\n", "DEL\n", "ENDBSM\n", "ENDEND\n", ".F/A\n", ".F\n", "\n", "x", ".F/" + longest + "A\n", ".F////////\n"}
	level := []string{""}
	for range 5 {
		var next []string
		for _, s := range level {
			for _, line := range l {
				next = append(next, s+line)
			}
		}
		for _, s := range next {
			checkParse(t, s)
		}
		// What begins wrongly remains wrong in the same place.
		level = slices.DeleteFunc(next, func(s string) bool {
			line, _ := judge(s)
			return line != 0 && line <= strings.Count(s, "\n")
		})
	}
}

func TestEachByteOfAText(t *testing.T) { // P3.2
	for _, s := range []string{"BSM\n.F/AB/C\nENDBSM\n", "END\nCHG\n.F/\nENDEND\n", "CHG\nDEL\nENDCHG\n"} {
		for i := range len(s) {
			for c := range 256 {
				b := string([]byte{byte(c)})
				checkParse(t, s[:i]+b+s[i+1:])
				checkParse(t, s[:i]+b+s[i:])
			}
			checkParse(t, s[:i]+s[i+1:])
		}
	}
}

func TestResultsShareNoMemory(t *testing.T) { // P3.2, rule 2
	s := "BSM\n.A/1/2\n.B/3/4\n.C/5/6\nENDBSM\n"
	a, _, _ := Parse(s)
	b, _, _ := Parse(s)
	for i := range a.Elements {
		parts := a.Elements[i].Parts
		for k := range parts[:cap(parts)] {
			parts[:cap(parts)][k] = "X"
		}
		for k, x := range a.Elements {
			if want := []string{"X", "X"}; k <= i && !slices.Equal(x.Parts, want) {
				t.Error(k, x)
			}
			if k > i && !slices.Equal(x.Parts, b.Elements[k].Parts) {
				t.Error(k, x)
			}
		}
	}
	clear(a.Elements[:cap(a.Elements)])
	if got, _ := Format(b); got != s {
		t.Error(got)
	}
}

func TestArgumentsAreKept(t *testing.T) { // P3.1, P3.3, rule 2
	parts := []string{"A", "b", "C"}
	elements := []api.Element{{Key: "F", Parts: parts[:1]}, {Key: "g", Parts: []string{"D"}}}
	x := telegram("BSM", "", elements[:1]...)
	Validate(x)
	Format(x)
	Same(x, x)
	if !slices.Equal(parts, []string{"A", "b", "C"}) || elements[0].Key != "F" || len(elements[0].Parts) != 1 || elements[1].Key != "g" || elements[1].Parts[0] != "D" {
		t.Error(parts, elements)
	}
}

func TestSame(t *testing.T) { // P3.3
	different := []api.Telegram{
		{},
		telegram("BSM", ""),
		telegram("BTM", ""),
		telegram("", "BSM"),
		telegram("BSM", "CHG"),
		telegram("BSM", "DEL"),
		telegram("BSM", "", element("F", "A")),
		telegram("BSM", "CHG", element("F", "A")),
		telegram("BSM", "", element("G", "A")),
		telegram("BSM", "", element("F", "B")),
		telegram("BSM", "", element("F", "a")),
		telegram("BSM", "", element("F", "")),
		telegram("BSM", "", element("F")),
		telegram("BSM", "", element("", "F")),
		telegram("BSM", "", element("F", "A", "")),
		telegram("BSM", "", element("F", "A", "B")),
		telegram("BSM", "", element("F", "B", "A")),
		telegram("BSM", "", element("F", "AB")),
		telegram("BSM", "", element("F", "A/B")),
		telegram("BSM", "", element("F", "A"), element("F", "B")),
		telegram("BSM", "", element("F", "B"), element("F", "A")),
		telegram("BSM", "", element("F", "A"), api.Element{}),
		telegram("BSM\xff", "\x00", element("\n", "/")),
	}
	for i, a := range different {
		for k, b := range different {
			if got := Same(a, b); got != (i == k) {
				t.Errorf("Same(%q, %q) is %v", a, b, got)
			}
		}
	}
	for _, c := range valid {
		again, _, _ := Parse(c.s)
		if !Same(c.t, again) || !Same(again, c.t) {
			t.Errorf("%q is not the same as itself", c.s)
		}
	}
}

func TestNilAndEmptySlicesAreTheSame(t *testing.T) { // P3.3, rule 2
	none := telegram("BSM", "")
	empty := api.Telegram{Kind: "BSM", Elements: []api.Element{}}
	if !Same(none, empty) || !Same(empty, none) {
		t.Error("elements")
	}
	none = telegram("BSM", "", api.Element{Key: "F"})
	empty = telegram("BSM", "", api.Element{Key: "F", Parts: []string{}})
	if !Same(none, empty) || !Same(empty, none) {
		t.Error("parts")
	}
}
