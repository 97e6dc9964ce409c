package layout

import (
	"regexp"
	"slices"
	"strconv"
	"strings"
	"testing"

	"baggage/api"
)

func lines(l ...string) string { return strings.Join(l, "\n") + "\n" }

// smallText and planText are the texts of small and plan.
var (
	smallText = lines("entry A 2 0 > G", "gate G 1 0 > M C", "chute C 1", "manual M 0", "scanner G 0")
	planText  = lines(
		"entry E1 1 0 > B",
		"entry E2 8 0 > B",
		"belt B 3 0 > S",
		"screen S 2 0 > L",
		"loop L 3 0 > L G",
		"gate G 1 0 > M D",
		"diverter D 4 1 > C P",
		"store P 1 > Q",
		"chute C 1",
		"manual M 0",
		"belt Q 2 1 > R",
		"loop R 2 1 > R N",
		"manual N 1",
		"diverter V 1 0 > M G",
		"belt K 5 0 > M",
		"photocell B 0",
		"photocell B 2",
		"scanner B 0",
		"scanner G 0",
		"photocell R 1",
	)
)

// write is a second reading of P7.2, for valid layouts.
func write(l api.Layout) string {
	s := ""
	for _, n := range l.Nodes {
		s += strings.Fields("entry belt screen diverter loop gate store chute manual")[n.Kind-1] + " " + n.Name
		if n.Length > 0 {
			s += " " + strconv.Itoa(n.Length)
		}
		s += " " + strconv.Itoa(n.Zone)
		for i, to := range n.Exits {
			s += []string{" > ", " "}[i] + l.Nodes[to].Name
		}
		s += "\n"
	}
	for _, d := range l.Devices {
		s += strings.Fields("photocell scanner")[d.Kind-1] + " " + l.Nodes[d.Node].Name + " " + strconv.Itoa(d.Window) + "\n"
	}
	return s
}

// checkText checks that a layout and a text correspond to each other.
func checkText(t *testing.T, l api.Layout, s string) {
	t.Helper()
	if got, e := Format(l); got != s || e != api.OK {
		t.Errorf("Format is %q, %d, not %q", got, e, s)
	}
	if got, line, e := Parse(s); !same(got, l) || line != 0 || e != api.OK {
		t.Errorf("Parse(%q) is %v, %d, %d", s, got, line, e)
	}
}

func TestTextsOfValidLayouts(t *testing.T) { // P7.2, P7.3
	checkText(t, small(), smallText)
	checkText(t, plan(), planText)
	checkText(t, largest(), write(largest()))
	checkText(t, api.Layout{Nodes: []api.Node{node("M", api.NodeManual, 0, 0), node("A", api.NodeEntry, 8, 0, 0)}}, "manual M 0\nentry A 8 0 > M\n")
	for _, l := range []api.Layout{small(), plan(), largest()} {
		if s := write(l); len(s) > api.MaxLayout {
			t.Error(len(s))
		}
	}
}

// wrong checks that a text is none, with a line and an error.
func wrong(t *testing.T, s string, line int, e api.Errno) {
	t.Helper()
	got, n, f := Parse(s)
	if n != line || f != e || !same(got, api.Layout{}) {
		t.Errorf("Parse(%.300q) is %v, %d, %d, not %d, %d", s, got, n, f, line, e)
	}
}

func TestLengthOfTexts(t *testing.T) { // P7.3
	for _, s := range []string{"x", "\n", "\xff", "manual M 0\n", "scanner M 0\n", smallText} {
		long := strings.Repeat(s, api.MaxLayout+1)
		wrong(t, long, 0, api.ErrLimit)
		wrong(t, long[:api.MaxLayout+1], 0, api.ErrLimit)
	}
	wrong(t, strings.Repeat("x", api.MaxLayout), 1, api.ErrSyntax)
	wrong(t, strings.Repeat("\n", api.MaxLayout), 1, api.ErrSyntax)
	most := strings.Repeat("manual M 0\n", 371) + "manual MANU 0\n\n"
	wrong(t, most[:api.MaxLayout-1], 0, api.ErrLimit) // which is that of Validate
	wrong(t, most[:api.MaxLayout], 373, api.ErrSyntax)
	wrong(t, strings.Repeat("scanner M 0\n", 341)+"x\n", 342, api.ErrSyntax)
	wrong(t, strings.Repeat("scanner M 0\n", 341), 1, api.ErrMissing)
	wrong(t, strings.Repeat("manual M 0\n", 370)+"store S 1 > MISSING12345\n", 371, api.ErrMissing)
}

// shapes has texts that are no lines, whose names are those of nodes that exist.
var shapes = []string{
	"", " ", "x", "A", "> A", "1",
	"entry", "entry ", "entry A", "entry A 1", "entry A 1 0", "entry A 1 0 >", "entry A 1 0 > ", "entry A 1 0 > M M", "entry A 1 0 > M C", "entry A 1 0 M", "entry A 1 0 M M",
	"entry A 0 > M", "entry 1 0 > M", "entry A 1 > M", "entry A 1 0 0 > M", "entry A 1 0 > > M", "entry A 1 0 >M", "entry A 1 0> M", "entry A 1 0 < M", "entry A 1 0 >> M", "entry A 1 0 > >",
	" entry A 1 0 > M", "entry A 1 0 > M ", "entry  A 1 0 > M", "entry A  1 0 > M", "entry A 1  0 > M", "entry A 1 0  > M", "entry A 1 0 >  M", "entry\tA 1 0 > M", "entry A 1 0 > M\r", "entry A 1 0 > M\x00",
	"Entry A 1 0 > M", "ENTRY A 1 0 > M", "entr A 1 0 > M", "entrys A 1 0 > M", "node A 1 0 > M", "1 A 1 0 > M",
	"belt A 1 0 > M C", "screen A 1 0 > M C", "diverter A 1 0 > M", "diverter A 1 0 > M C C", "diverter A 1 0", "loop A 2 0 > A", "loop A 2 0 > M C A", "gate A 1 0 > M", "gate A 1 0 > M C C", "gate A 1 0 > M > C", "gate A 1 0 > M >",
	"store A 0 1 > C", "store A 1 C", "store A 1", "store A 1 >", "store A 1 > C C", "store A > C", "store A",
	"chute A", "chute A 0 1", "chute A 1 1", "chute A 1 >", "chute A 1 > C", "chute A 1 ", "chute 1", "chute 1 A", "manual A", "manual A 0 0", "manual A 0 > C", "manual 0", "manual 0 A",
	"photocell", "photocell G", "photocell 0", "photocell G 0 0", "photocell G 0 ", "photocell G > 0", "photocell 0 G", "scanner", "scanner G", "scanner 0", "scanner G 0 0", "scanner G G", "Scanner G 0", "camera G 0",
}

func TestLinesWithoutTheirForm(t *testing.T) { // P7.3
	text := strings.SplitAfter(strings.TrimSuffix(smallText, "\n"), "\n")
	text[4] += "\n"
	for _, x := range shapes {
		for i := range len(text) + 1 {
			s := strings.Join(slices.Insert(slices.Clone(text), i, x+"\n"), "")
			wrong(t, s, i+1, api.ErrSyntax)
			wrong(t, s+"?\n", i+1, api.ErrSyntax)
			if x != "" {
				wrong(t, strings.Join(text[:i], "")+x, i+1, api.ErrSyntax)
			}
		}
	}
}

func TestNamesInTexts(t *testing.T) { // P7.3
	for _, bad := range []string{"a", "Ab", "aB", "1", "9A", "-", "A-", "A_B", ">", "A>", "ABCDEFGHIJKLM", "A\xff", "\xc3\x85", "@", "[", "A/", "A:", "`", "\x00"} {
		for _, form := range []string{"entry * 1 0 > M", "belt * 1 0 > M", "gate * 1 0 > M C", "store * 1 > C", "chute * 1", "manual * 0", "entry A 1 0 > *", "loop A 2 0 > * M", "loop A 2 0 > A *", "store A 1 > *", "photocell * 0", "scanner * 0"} {
			wrong(t, lines("manual M 0", strings.Replace(form, "*", bad, 1)), 2, api.ErrSyntax)
		}
	}
	for _, good := range []string{"A", "Z", "A0", "Z9", "ABCDEFGHIJKL", "A12345678901", "ENTRY"} {
		s := lines("entry "+good+" 1 0 > X"+good[1:], "manual X"+good[1:]+" 0", "scanner "+good+" 0")
		if _, line, e := Parse(s); line != 0 || e != api.OK {
			t.Errorf("%q: %d, %d", s, line, e)
		}
	}
}

func TestNumbersInTexts(t *testing.T) { // P7.3
	forms := []string{"entry A * 0 > M", "entry A 1 * > M", "store S * > C", "chute C *", "manual M *", "photocell M *", "scanner M *"}
	for _, bad := range []string{"", "00", "01", "000", "007", "1000", "0000", "0001", "9999", "99999999999999999999", "-1", "-0", "+1", "+0", "1.", ".5", "1e1", "0x1", "1_0", " 1", "A", "1A", "A1", "\xd9\xa1", "\xff", "/", ":", "\x00"} {
		for _, form := range forms {
			wrong(t, lines("manual M 0", strings.Replace(form, "*", bad, 1)), 2, api.ErrSyntax)
		}
	}
	for _, big := range []string{"9", "10", "99", "100", "999"} {
		for _, form := range forms {
			wrong(t, lines("belt N 1 0 > M", "manual M 0", "chute C 1", strings.ReplaceAll(strings.Replace(form, "*", big, 1), "C "+big, "D "+big)), 0, api.ErrRange)
		}
	}
	wrong(t, lines("entry A 0 0 > M", "manual M 0"), 0, api.ErrRange)
	wrong(t, lines("entry A 1 0 > M", "manual M 0", "scanner A 1"), 0, api.ErrRange)
}

func TestNodesBehindDevices(t *testing.T) { // P7.3
	text := strings.SplitAfter(smallText, "\n")
	for i := range 4 {
		for device := range 5 {
			l := slices.Insert(slices.Clone(text[:4]), i, strings.Repeat(text[4], device))
			line := 0
			if device > 0 {
				line = i + device + 1
			}
			if s := strings.Join(l, ""); line > 0 {
				wrong(t, s, line, api.ErrSyntax)
				wrong(t, s+"x", line, api.ErrSyntax)
			}
		}
	}
	wrong(t, smallText+"photocell A 0\nscanner A 0\nmanual N 0\n", 8, api.ErrSyntax)
}

func TestMissingNames(t *testing.T) { // P7.3
	wrong(t, lines("entry A 2 0 > M", "entry B 2 0 > G", "manual M 0"), 2, api.ErrMissing)
	wrong(t, lines("entry A 2 0 > M", "manual M 0", "scanner B 0"), 3, api.ErrMissing)
	wrong(t, lines("entry A 2 0 > M", "manual M 0", "scanner B 0", "scanner C 0"), 3, api.ErrMissing)
	wrong(t, lines("entry A 2 0 > M", "manual M 0", "scanner A 0", "scanner B 0"), 4, api.ErrMissing)
	wrong(t, lines("entry A 2 0 > M", "manual N 0"), 1, api.ErrMissing)
	wrong(t, lines("entry A 2 0 > M0", "manual M 0"), 1, api.ErrMissing)
	wrong(t, lines("entry A 2 0 > M", "manual M0 0"), 1, api.ErrMissing)
	wrong(t, lines("manual M 0", "gate G 1 0 > M X"), 2, api.ErrMissing)
	wrong(t, lines("manual M 0", "gate G 1 0 > X M"), 2, api.ErrMissing)
	wrong(t, lines("manual M 0", "loop L 2 0 > X M"), 2, api.ErrMissing)
	wrong(t, lines("store S 1 > X"), 1, api.ErrMissing)
	wrong(t, lines("scanner A 0"), 1, api.ErrMissing)
	wrong(t, lines("entry A 2 0 > X", "x"), 2, api.ErrSyntax) // the form of all lines comes first
	wrong(t, lines("entry A 2 0 > X", "manual M 0")+"manual N 0", 3, api.ErrSyntax)
	wrong(t, lines("entry A 2 0 > M", "scanner X 0", "manual M 0"), 3, api.ErrSyntax)
	wrong(t, lines("entry A 99 9 > X", "manual M 9"), 1, api.ErrMissing) // and comes before Validate
	wrong(t, lines("manual M 0", "manual M 0", "entry A 1 0 > X"), 3, api.ErrMissing)
}

func TestNamesOfSeveralNodes(t *testing.T) { // P7.3
	wrong(t, lines("entry A 1 0 > M", "manual M 0", "manual M 0"), 0, api.ErrDuplicate)
	wrong(t, lines("entry A 1 0 > M", "belt M 1 0 > M", "manual M 0"), 0, api.ErrRange)     // the first M is the belt itself
	wrong(t, lines("entry A 1 0 > M", "manual M 0", "belt M 1 0 > M"), 0, api.ErrDuplicate) // the first M is not
	wrong(t, lines("loop L 2 0 > L M", "manual M 0", "belt L 1 0 > M"), 0, api.ErrDuplicate)
	wrong(t, lines("belt L 1 0 > M", "manual M 0", "loop L 2 0 > L M"), 0, api.ErrRange)
}

func TestErrorsOfValidate(t *testing.T) { // P7.3
	for _, f := range faults() {
		l := plan()
		f.set(&l)
		switch f.rank { // the other ones have no text, or their text says something else
		case 1, 3, 5, 6, 8, 9:
			if len(l.Nodes)+len(l.Devices) < 100 {
				wrong(t, write(l), 0, f.want)
			}
		}
	}
	wrong(t, "", 0, api.ErrMissing)
	wrong(t, lines("manual M 0"), 0, api.ErrMissing)
	wrong(t, lines("entry A 2 0 > G", "gate G 1 0 > C M", "chute C 1", "manual M 0"), 0, api.ErrState)
	wrong(t, lines("entry A 2 0 > A"), 0, api.ErrRange)
	wrong(t, lines("entry A 2 0 > M", "loop L 2 0 > M L", "manual M 0"), 0, api.ErrRange)
	wrong(t, lines("entry A 2 2 > M", "manual M 0"), 0, api.ErrRange)
	wrong(t, lines("entry A 1 0 > M", "manual M 0", "scanner M 0"), 0, api.ErrRange)
}

func TestNoBeginningOfATextIsWrongBefore(t *testing.T) { // P7.3
	for _, s := range []string{smallText, planText} {
		for i := range len(s) {
			if x := s[:i]; i > 0 && x[i-1] != '\n' {
				wrong(t, x, strings.Count(x, "\n")+1, api.ErrSyntax)
			}
		}
	}
}

const (
	namePattern   = "[A-Z][A-Z0-9]{0,11}"
	numberPattern = "(?:0|[1-9][0-9]{0,2})"
)

// The forms of lines, with their words and numbers as the chapter's table has them.
var (
	nodeLine = regexp.MustCompile(strings.NewReplacer("N", namePattern, "D", numberPattern).Replace(
		`\A(?:(?:entry|belt|screen) (N) D D > (N)|(?:diverter|loop|gate) (N) D D > (N) (N)|store (N) D > (N)|(?:chute|manual) (N) D)\z`))
	deviceLine = regexp.MustCompile(strings.NewReplacer("N", namePattern, "D", numberPattern).Replace(`\A(?:photocell|scanner) (N) D\z`))
)

// judgeText is a second reading of P7.3 up to the errors of Validate, for texts within the limit.
func judgeText(s string) (int, api.Errno) {
	text := strings.SplitAfter(s, "\n")
	devices, names := false, map[string]bool{}
	var named [][]string
	for i, x := range text {
		if x == "" {
			continue
		}
		line, whole := strings.CutSuffix(x, "\n")
		n, d := nodeLine.FindStringSubmatch(line), deviceLine.FindStringSubmatch(line)
		if !whole || n == nil && d == nil || n != nil && devices {
			return i + 1, api.ErrSyntax
		}
		if devices = d != nil; devices {
			named = append(named, d[1:])
			continue
		}
		l := slices.DeleteFunc(n[1:], func(s string) bool { return s == "" })
		names[l[0]] = true
		named = append(named, l[1:])
	}
	for i, l := range named {
		for _, name := range l {
			if !names[name] {
				return i + 1, api.ErrMissing
			}
		}
	}
	return 0, api.OK
}

// secondReading returns the layout of a text that has no error but those of Validate.
func secondReading(s string) api.Layout {
	var l api.Layout
	first := map[string]int{}
	all := strings.Split(strings.TrimSuffix(s, "\n"), "\n")
	if s == "" {
		all = nil
	}
	for i, line := range all {
		if name := strings.Fields(line)[1]; !deviceLine.MatchString(line) {
			if _, ok := first[name]; !ok {
				first[name] = i
			}
		}
	}
	kinds := map[string]int{"entry": 1, "belt": 2, "screen": 3, "diverter": 4, "loop": 5, "gate": 6, "store": 7, "chute": 8, "manual": 9, "photocell": 1, "scanner": 2}
	for _, line := range all {
		head, tail, _ := strings.Cut(line, ">")
		w := strings.Fields(head)
		last, _ := strconv.Atoi(w[len(w)-1])
		if deviceLine.MatchString(line) {
			l.Devices = append(l.Devices, device(kinds[w[0]], first[w[1]], last))
			continue
		}
		n := node(w[1], kinds[w[0]], 0, last)
		if len(w) == 4 {
			n.Length, _ = strconv.Atoi(w[2])
		}
		for _, x := range strings.Fields(tail) {
			n.Exits = append(n.Exits, first[x])
		}
		l.Nodes = append(l.Nodes, n)
	}
	return l
}

func checkParse(t *testing.T, s string) {
	t.Helper()
	if line, e := judgeText(s); e != api.OK {
		wrong(t, s, line, e)
		return
	}
	l := secondReading(s)
	if e := Validate(l); e != api.OK {
		wrong(t, s, 0, e)
		return
	}
	checkText(t, l, s)
}

func TestEachByteOfAText(t *testing.T) { // P7.3
	for i := range len(smallText) {
		for c := range 256 {
			b := string([]byte{byte(c)})
			checkParse(t, smallText[:i]+b+smallText[i+1:])
			checkParse(t, smallText[:i]+b+smallText[i:])
		}
		checkParse(t, smallText[:i]+smallText[i+1:])
	}
	for i := range len(planText) {
		for _, b := range []string{" ", "\n", "0", "1", "2", "9", "B", "C", "D", "G", "L", "M", "N", "Q", "a", ">", "-", "\r", "\xff"} {
			checkParse(t, planText[:i]+b+planText[i+1:])
			checkParse(t, planText[:i]+b+planText[i:])
		}
		checkParse(t, planText[:i]+planText[i+1:])
	}
}

func TestEachWordOfAText(t *testing.T) { // P7.3
	words := []string{"entry", "belt", "screen", "diverter", "loop", "gate", "store", "chute", "manual", "photocell", "scanner", ">", "0", "1", "2", "8", "9", "999", "1000", "A", "G", "C", "M", "X", "E1", "D", "P", ""}
	for _, text := range []string{smallText, planText} {
		l := strings.SplitAfter(text, "\n")
		l = l[:len(l)-1]
		for i, line := range l {
			w := strings.Split(strings.TrimSuffix(line, "\n"), " ")
			for k := range w {
				for _, other := range append(slices.Clone(w), words...) {
					changed := slices.Clone(w)
					changed[k] = other
					for _, x := range [][]string{changed, slices.Insert(slices.Clone(w), k, other), slices.Delete(slices.Clone(w), k, k+1)} {
						all := slices.Clone(l)
						all[i] = strings.Join(x, " ") + "\n"
						checkParse(t, strings.Join(all, ""))
					}
				}
			}
		}
	}
}

func TestEachLineOfAText(t *testing.T) { // P7.3
	for _, text := range []string{smallText, planText} {
		l := strings.SplitAfter(text, "\n")
		l = l[:len(l)-1]
		for i := range l {
			checkParse(t, strings.Join(slices.Delete(slices.Clone(l), i, i+1), ""))
			for k := range l {
				x := slices.Clone(l)
				x[i], x[k] = x[k], x[i]
				checkParse(t, strings.Join(x, ""))
				checkParse(t, strings.Join(slices.Insert(slices.Clone(l), i, l[k]), ""))
				x = slices.Clone(l)
				x[i] = l[k]
				checkParse(t, strings.Join(x, ""))
			}
		}
	}
}
