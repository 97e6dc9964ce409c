package plant

import (
	"math"
	"slices"
	"strconv"
	"strings"
	"testing"

	"baggage/api"
	"baggage/layout"
	"baggage/traffic"
)

const (
	stick = api.FaultStick
	slide = api.FaultSlide
)

// parse returns the layout of some lines.
func parse(t *testing.T, lines ...string) api.Layout {
	t.Helper()
	l, line, e := layout.Parse(strings.Join(lines, "\n") + "\n")
	if e != api.OK {
		t.Fatal(lines, line, e)
	}
	return l
}

// values calls f with each word of a text like "A=1 B=-1".
func values(t *testing.T, l api.Layout, text string, f func(i int, value string)) {
	t.Helper()
	for _, word := range strings.Fields(text) {
		name, value, _ := strings.Cut(word, "=")
		i := layout.Find(l, name)
		if i < 0 {
			t.Fatal("there is no node", name)
		}
		f(i, value)
	}
}

// plantOf returns the plant of a text like "B=010 P=49" with a digit for each window of a strip and each bag of a bin.
func plantOf(t *testing.T, l api.Layout, text string) api.Plant {
	t.Helper()
	p := api.Plant{Slots: make([][]int, len(l.Nodes)), Bins: make([][]int, len(l.Nodes))}
	for i, n := range l.Nodes {
		p.Slots[i] = make([]int, n.Length)
	}
	values(t, l, text, func(i int, value string) {
		var bags []int
		for _, digit := range value {
			bags = append(bags, int(digit-'0'))
		}
		switch {
		case layout.IsBin(l.Nodes[i]):
			p.Bins[i] = bags
		case len(bags) != l.Nodes[i].Length:
			t.Fatal(text)
		default:
			p.Slots[i] = bags
		}
	})
	return p
}

// commandsOf returns the commands of a text like "D=1 P=9", which are 0 for the other nodes.
func commandsOf(t *testing.T, l api.Layout, text string) []int {
	t.Helper()
	commands := make([]int, len(l.Nodes))
	values(t, l, text, func(i int, value string) {
		n, err := strconv.Atoi(value)
		if err != nil {
			t.Fatal(text)
		}
		commands[i] = n
	})
	return commands
}

// passagesOf returns the passages of a text like "7:A>B 3:S>C".
func passagesOf(t *testing.T, l api.Layout, text string) []api.Passage {
	t.Helper()
	var list []api.Passage
	for _, word := range strings.Fields(text) {
		bag, way, _ := strings.Cut(word, ":")
		from, to, _ := strings.Cut(way, ">")
		n, err := strconv.Atoi(bag)
		x := api.Passage{Bag: n, From: layout.Find(l, from), To: layout.Find(l, to)}
		if err != nil || x.From < 0 || x.To < 0 {
			t.Fatal(text)
		}
		list = append(list, x)
	}
	return list
}

// equal compares two plants without the function of the package.
func equal(a, b api.Plant) bool {
	rows := func(a, b [][]int) bool {
		if len(a) != len(b) {
			return false
		}
		for i := range a {
			if !slices.Equal(a[i], b[i]) {
				return false
			}
		}
		return true
	}
	return rows(a.Slots, b.Slots) && rows(a.Bins, b.Bins)
}

func isZero(p api.Plant) bool { return len(p.Slots)+len(p.Bins) == 0 }

// step checks one result of Step, where the texts say what is in the plant before and after, what the commands are and which bags go.
func step(t *testing.T, l api.Layout, before, commands string, faults []api.Fault, after, passages string) {
	t.Helper()
	got, moved, e := Step(l, plantOf(t, l, before), commandsOf(t, l, commands), faults)
	if want := plantOf(t, l, after); e != api.OK || !equal(got, want) || !slices.Equal(moved, passagesOf(t, l, passages)) {
		t.Errorf("%q, commands %q, faults %v: %v, %v, %d, not %v, %s", before, commands, faults, got, moved, e, want, passages)
	}
}

// where checks one result of Where.
func where(t *testing.T, p api.Plant, bag, node, window int) {
	t.Helper()
	if got, ok := Where(p, bag); !ok || got != (api.Place{Node: node, Window: window}) {
		t.Errorf("Where(%v, %d) is %v, %v, not %d, %d", p, bag, got, ok, node, window)
	}
}

// nowhere checks that Where does not find a bag.
func nowhere(t *testing.T, p api.Plant, bag int) {
	t.Helper()
	if got, ok := Where(p, bag); ok || got != (api.Place{}) {
		t.Errorf("Where(%v, %d) is %v, %v", p, bag, got, ok)
	}
}

func sticks(i, window int) api.Fault { return api.Fault{Kind: stick, Node: i, Window: window} }
func slides(i, window int) api.Fault { return api.Fault{Kind: slide, Node: i, Window: window} }

// example returns the layout of chapter 7's example.
func example(t *testing.T) api.Layout {
	t.Helper()
	return parse(t, "entry A 2 0 > G", "gate G 1 0 > M C", "chute C 1", "manual M 0", "scanner G 0")
}

// all returns a layout with all kinds.
func all(t *testing.T) api.Layout {
	t.Helper()
	return parse(t,
		"entry E 1 0 > S",
		"screen S 2 0 > L",
		"loop L 3 0 > L G",
		"gate G 1 0 > M V",
		"manual M 0",
		"diverter V 2 1 > P K",
		"store P 1 > K",
		"store Q 1 > P",
		"diverter X 1 1 > Q K",
		"loop K 3 1 > K B",
		"belt B 2 1 > C",
		"chute C 1",
		"entry F 3 0 > N",
		"manual N 0",
		"photocell E 0",
		"scanner G 0",
	)
}

func TestExample(t *testing.T) { // P11.1, P11.2, P11.3, P11.4
	l := example(t)
	p, e := New(l)
	if e != api.OK {
		t.Fatal(e)
	}
	if p, e = Enter(l, p, 0, 5); e != api.OK {
		t.Fatal(e)
	}
	where(t, p, 5, 0, 0)
	for _, c := range []struct {
		place    api.Place
		passages string
	}{
		{api.Place{Node: 0, Window: 1}, ""},
		{api.Place{Node: 1, Window: 0}, "5:A>G"},
		{api.Place{Node: 2, Window: -1}, "5:G>C"},
		{api.Place{Node: 2, Window: -1}, ""},
	} {
		next, moved, e := Step(l, p, commandsOf(t, l, "G=1"), nil)
		if e != api.OK || !slices.Equal(moved, passagesOf(t, l, c.passages)) {
			t.Error(p, moved, e, c)
		}
		where(t, next, 5, c.place.Node, c.place.Window)
		p = next
	}
}

func TestNew(t *testing.T) { // P11.1
	for _, l := range []api.Layout{example(t), all(t), parse(t, "manual M 0", "entry E 8 0 > M")} {
		got, e := New(l)
		if want := plantOf(t, l, ""); e != api.OK || !equal(got, want) {
			t.Error(got, e, want)
		}
		for bag := range api.MaxBags + 2 {
			nowhere(t, got, bag)
		}
		if bags := Bags(got); len(bags) != 0 {
			t.Error(bags)
		}
	}
}

func TestNewErrors(t *testing.T) { // P11.1
	spoiled := func(f func(l *api.Layout)) api.Layout {
		l := all(t)
		f(&l)
		return l
	}
	for _, c := range []struct {
		l    api.Layout
		want api.Errno
	}{
		{api.Layout{}, api.ErrMissing},
		{api.Layout{Nodes: make([]api.Node, api.MaxNodes+1)}, api.ErrLimit},
		{api.Layout{Devices: make([]api.Device, api.MaxDevices+1)}, api.ErrLimit},
		{api.Layout{Nodes: []api.Node{{Name: "M", Kind: api.NodeManual}}}, api.ErrMissing},
		{spoiled(func(l *api.Layout) { l.Nodes[3].Name = "" }), api.ErrSyntax},
		{spoiled(func(l *api.Layout) { l.Nodes[3].Kind = 0 }), api.ErrKind},
		{spoiled(func(l *api.Layout) { l.Nodes[3].Length = -1 }), api.ErrRange},
		{spoiled(func(l *api.Layout) { l.Nodes[3].Length = math.MaxInt }), api.ErrRange},
		{spoiled(func(l *api.Layout) { l.Nodes[3].Name = "V" }), api.ErrDuplicate},
		{spoiled(func(l *api.Layout) {
			l.Nodes[3].Exits[0], l.Nodes[3].Exits[1] = l.Nodes[3].Exits[1], l.Nodes[3].Exits[0]
		}), api.ErrState},
		{spoiled(func(l *api.Layout) { l.Nodes[2].Exits[1] = 1 }), api.ErrOrder},
		{spoiled(func(l *api.Layout) { l.Devices[0].Kind = 3 }), api.ErrKind},
		{spoiled(func(l *api.Layout) { l.Devices[1].Window = 1 }), api.ErrRange},
		{spoiled(func(l *api.Layout) { l.Devices[1] = l.Devices[0] }), api.ErrDuplicate},
	} {
		if p, e := New(c.l); e != c.want || e != layout.Validate(c.l) || !isZero(p) {
			t.Error(c.l, p, e, c.want)
		}
	}
}

// enter checks one result of Enter: the text of the plant with the bag, or an error.
func enter(t *testing.T, l api.Layout, before string, node, bag int, after string, want api.Errno) {
	t.Helper()
	got, e := Enter(l, plantOf(t, l, before), node, bag)
	right := isZero(got)
	if want == api.OK {
		right = equal(got, plantOf(t, l, after))
	}
	if e != want || !right {
		t.Errorf("Enter(%q, %d, %d): %v, %d, not %q, %d", before, node, bag, got, e, after, want)
	}
}

func TestEnter(t *testing.T) { // P11.1
	l := all(t)
	f := layout.Find(l, "F")
	enter(t, l, "", 0, 1, "E=1", api.OK)
	enter(t, l, "", f, 9, "F=900", api.OK)
	enter(t, l, "E=1", f, 9, "E=1 F=900", api.OK)
	enter(t, l, "F=012", f, 9, "F=912", api.OK)
	enter(t, l, "F=001 S=23 M=456 P=7", f, 9, "F=901 S=23 M=456 P=7", api.OK)
	enter(t, l, "F=100", f, 9, "", api.ErrFull)
	enter(t, l, "F=123", f, 9, "", api.ErrFull)
	enter(t, l, "E=1", 0, 9, "", api.ErrFull)
	enter(t, l, "F=100", 0, 9, "F=100 E=9", api.OK) // another Entry is full
	for bag := 1; bag <= api.MaxBags; bag++ {
		p, e := Enter(l, plantOf(t, l, ""), f, bag)
		if e != api.OK || p.Slots[f][0] != bag {
			t.Error(bag, p, e)
		}
	}
}

func TestEnterRange(t *testing.T) { // P11.1
	l := all(t)
	for _, node := range []int{math.MinInt, -1 << 32, -2, -1, len(l.Nodes), len(l.Nodes) + 1, 1 << 32, math.MaxInt} {
		enter(t, l, "", node, 1, "", api.ErrRange)
	}
	for _, bag := range []int{math.MinInt, -1 << 32, -40, -1, 0, api.MaxBags + 1, 256, 1 << 32, math.MaxInt} {
		enter(t, l, "", 0, bag, "", api.ErrRange)
	}
	enter(t, api.Layout{}, "", 0, 1, "", api.ErrRange)
}

func TestEnterKind(t *testing.T) { // P11.1
	l := all(t)
	for i, n := range l.Nodes {
		if n.Kind != api.NodeEntry {
			enter(t, l, "", i, 1, "", api.ErrKind)
		}
	}
}

func TestEnterTwice(t *testing.T) { // P11.1
	l := all(t)
	for _, before := range []string{"E=7", "F=007", "F=070", "F=700", "S=70", "S=07", "L=107", "G=7", "V=07", "K=700", "B=17", "M=7", "M=178", "P=37", "Q=789", "C=7", "N=7"} {
		enter(t, l, before, 0, 7, "", api.ErrDuplicate)
		enter(t, l, before, 12, 7, "", api.ErrDuplicate)
	}
}

func TestEnterOrderOfErrors(t *testing.T) { // P11.1
	l := all(t)
	screen, store := layout.Find(l, "S"), layout.Find(l, "P")
	enter(t, l, "", screen, 0, "", api.ErrRange)
	enter(t, l, "", store, api.MaxBags+1, "", api.ErrRange)
	enter(t, l, "E=7", 0, 0, "", api.ErrRange)
	enter(t, l, "E=7", -1, 7, "", api.ErrRange)
	enter(t, l, "S=70", screen, 7, "", api.ErrKind)
	enter(t, l, "S=70", screen, 8, "", api.ErrKind)
	enter(t, l, "P=7", store, 7, "", api.ErrKind)
	enter(t, l, "E=8 P=7", 0, 7, "", api.ErrDuplicate)
	enter(t, l, "E=8 F=007", 0, 7, "", api.ErrDuplicate)
	enter(t, l, "E=7", 0, 7, "", api.ErrDuplicate)
}

func TestStrips(t *testing.T) { // P11.2
	l := parse(t, "entry E 4 0 > B", "belt B 3 0 > M", "manual M 0")
	step(t, l, "", "", nil, "", "")
	step(t, l, "E=1000", "", nil, "E=0100", "")
	step(t, l, "E=1020 B=003", "", nil, "E=0102 B=000 M=3", "3:B>M")
	step(t, l, "E=1234 B=000", "", nil, "E=1230 B=400", "4:E>B")
	step(t, l, "E=1234 B=500", "", nil, "E=1234 B=050", "")     // window 0 will be empty, but was not
	step(t, l, "E=1230 B=050", "E=-1", nil, "E=1203 B=005", "") // only the last window is held
	step(t, l, "E=1203 B=050", "E=-1", nil, "E=1023 B=005", "")
	step(t, l, "E=0123 B=005", "B=-1", nil, "E=0120 B=305", "3:E>B")
	step(t, l, "E=0123 B=045", "E=-1 B=-1", nil, "E=0123 B=045", "")
	step(t, l, "B=045 M=26", "", nil, "B=040 M=256", "5:B>M")
}

func TestFaults(t *testing.T) { // P11.2
	l := parse(t, "entry E 4 0 > B", "belt B 3 0 > M", "manual M 0")
	step(t, l, "E=1000", "", []api.Fault{sticks(0, 0)}, "E=1000", "")
	step(t, l, "E=1000", "", []api.Fault{slides(0, 0)}, "E=0010", "")
	step(t, l, "B=100", "", []api.Fault{slides(1, 0)}, "B=001", "")
	step(t, l, "E=1000 B=200", "", []api.Fault{sticks(1, 0)}, "E=0100 B=200", "") // of one strip, not of the other
	step(t, l, "E=1000 B=200", "", []api.Fault{slides(0, 0), slides(1, 0)}, "E=0010 B=002", "")
	step(t, l, "E=1000 B=200", "", []api.Fault{slides(1, 0), sticks(0, 0)}, "E=1000 B=002", "")
	step(t, l, "E=0100", "", []api.Fault{slides(0, 1)}, "E=0001", "")
	step(t, l, "E=0010", "", []api.Fault{slides(0, 2)}, "E=0001", "") // not over the end
	step(t, l, "E=1020", "", []api.Fault{slides(0, 0)}, "E=0102", "")
	step(t, l, "E=0001", "", []api.Fault{sticks(0, 3)}, "E=0001", "")
	step(t, l, "E=0001", "", []api.Fault{slides(0, 3)}, "B=100", "1:E>B") // no further than window 0
	step(t, l, "B=001", "", []api.Fault{sticks(1, 2)}, "B=001", "")
	step(t, l, "E=0001 B=002", "", []api.Fault{sticks(1, 0), sticks(1, 2)}, "B=102", "1:E>B") // the fault of window 0 was before it came
	step(t, l, "E=0001", "", []api.Fault{slides(1, 0)}, "B=100", "1:E>B")
	step(t, l, "E=1010 B=102", "", []api.Fault{sticks(0, 0), sticks(0, 2), sticks(1, 0), sticks(1, 2)}, "E=1010 B=102", "")
}

func TestExits(t *testing.T) { // P11.2, P11.3
	l := all(t)
	for _, c := range []struct{ before, commands, after, passages string }{
		{"E=1", "", "S=10", "1:E>S"},
		{"E=1", "E=-1", "E=1", ""},
		{"S=01", "", "L=100", "1:S>L"},
		{"S=01", "S=-1", "S=01", ""},
		{"L=001", "L=1", "G=1", "1:L>G"},
		{"G=1", "", "M=1", "1:G>M"},
		{"G=1", "G=1", "V=10", "1:G>V"},
		{"G=1", "G=-1", "G=1", ""},
		{"V=01", "", "P=1", "1:V>P"},
		{"V=01", "V=1", "K=100", "1:V>K"},
		{"X=1", "", "Q=1", "1:X>Q"},
		{"X=1", "X=1", "K=100", "1:X>K"},
		{"K=001", "K=1", "B=10", "1:K>B"},
		{"B=01", "", "C=1", "1:B>C"},
		{"C=1 M=2 N=3", "", "C=1 M=2 N=3", ""},
	} {
		step(t, l, c.before, c.commands, nil, c.after, c.passages)
	}
}

func TestTogether(t *testing.T) { // P11.2, P11.3
	l := all(t)
	// L turns, as G was not empty, so that S waits; 5 and 6 want to go to K, whose last bag goes on.
	step(t, l, "E=1 S=02 L=003 G=4 V=05 X=6 K=007 B=08 C=9", "L=1 V=1 X=1 K=1", nil,
		"S=12 L=300 M=4 X=6 K=500 B=70 C=89", "1:E>S 4:G>M 5:V>K 7:K>B 8:B>C")
	step(t, l, "E=1 S=02 L=030 G=4 V=05 Q=7 K=070 F=008", "G=1", nil,
		"S=10 L=203 V=40 P=5 Q=7 K=007 N=8", "1:E>S 2:S>L 4:G>V 5:V>P 8:F>N")
}

func TestLoops(t *testing.T) { // P11.2, P11.3
	l := parse(t, "entry E 1 0 > L", "loop L 4 0 > L M", "manual M 0")
	step(t, l, "L=0007", "", nil, "L=7000", "") // a turn is no passage
	step(t, l, "L=0007 E=1", "", nil, "L=7000 E=1", "")
	step(t, l, "L=5007", "", nil, "L=0507", "") // 7 stays
	step(t, l, "L=0567", "", nil, "L=7560", "")
	step(t, l, "L=0507", "", nil, "L=7050", "")
	step(t, l, "L=0007", "L=1", nil, "M=7", "7:L>M")
	step(t, l, "L=0567 E=1", "L=1", nil, "L=0560 M=7 E=1", "7:L>M") // one window was empty, and that is not enough
	step(t, l, "L=0507 E=1", "L=1", nil, "L=1050 M=7", "1:E>L 7:L>M")
	step(t, l, "L=0007", "", []api.Fault{sticks(1, 3)}, "L=0007", "")
	step(t, l, "L=0007 E=1", "", []api.Fault{sticks(1, 3)}, "L=1007", "1:E>L")
	step(t, l, "L=0007", "", []api.Fault{slides(1, 3)}, "L=7000", "")
	step(t, l, "L=0060", "", []api.Fault{slides(1, 2)}, "L=0006", "")
	step(t, l, "L=0057", "", []api.Fault{slides(1, 2), slides(1, 3)}, "L=7050", "")
	two := parse(t, "loop L 2 0 > L M", "entry E 1 0 > L", "manual M 0")
	step(t, two, "L=01", "", nil, "L=10", "")
	step(t, two, "L=10", "", nil, "L=01", "")
	step(t, two, "L=10", "L=1", nil, "L=01", "")
}

func TestLosingLoop(t *testing.T) { // P11.2, P11.3
	l := parse(t, "entry E 1 0 > B", "loop L 3 0 > L B", "belt B 1 0 > M", "manual M 0")
	step(t, l, "E=1 L=002", "L=1", nil, "L=200 B=1", "1:E>B")
	step(t, l, "E=1 L=302", "L=1", nil, "L=032 B=1", "1:E>B")
	step(t, l, "L=002 B=4", "L=1", nil, "L=200 M=4", "4:B>M")
	step(t, l, "E=1 L=002", "L=1 E=-1", nil, "E=1 B=2", "2:L>B")
}

func TestStores(t *testing.T) { // P11.2, P11.3
	l := parse(t, "entry E 1 0 > M", "belt A 1 1 > P", "store Q 1 > P", "store P 1 > B", "belt B 2 1 > C", "chute C 1", "manual M 0")
	step(t, l, "P=49", "P=9", nil, "P=4 B=90", "9:P>B")
	step(t, l, "P=49", "P=4", nil, "P=9 B=40", "4:P>B")
	step(t, l, "P=2479", "P=4", nil, "P=279 B=40", "4:P>B")
	step(t, l, "P=4", "P=4", nil, "B=40", "4:P>B")
	step(t, l, "P=49", "", nil, "P=49", "")
	step(t, l, "P=49", "P=5", nil, "P=49", "") // not there
	step(t, l, "P=49 Q=5", "P=5", nil, "P=49 Q=5", "")
	step(t, l, "P=49 B=10", "P=4", nil, "P=49 B=01", "") // not let go
	step(t, l, "P=49 B=01", "P=4 B=-1", nil, "P=9 B=41", "4:P>B")
	step(t, l, "P=49 A=7", "P=4", nil, "P=79 B=40", "7:A>P 4:P>B") // one comes, another goes
	step(t, l, "P=49 Q=35 A=7", "P=4 Q=3", nil, "P=379 Q=5 B=40", "7:A>P 3:Q>P 4:P>B")
	step(t, l, "Q=35", "Q=5 P=5", nil, "Q=3 P=5", "5:Q>P") // not through two Stores in a tick
	step(t, l, "A=7", "P=7", nil, "P=7", "7:A>P")
}

func TestBins(t *testing.T) { // P11.2, P11.3
	l := parse(t, "entry A 1 0 > M", "entry B 1 0 > M", "entry C 1 0 > M", "entry D 1 0 > M", "manual M 0")
	step(t, l, "A=9 B=2 C=5 D=1", "", nil, "M=1259", "9:A>M 2:B>M 5:C>M 1:D>M")
	step(t, l, "A=9 B=2 C=5 D=1 M=3468", "", nil, "M=12345689", "9:A>M 2:B>M 5:C>M 1:D>M")
	step(t, l, "B=2 D=5 M=1", "D=-1", nil, "D=5 M=12", "2:B>M")
	step(t, l, "A=9 M=1", "", nil, "M=19", "9:A>M")
	step(t, l, "A=1 M=9", "", nil, "M=19", "1:A>M")
}

func TestOrderOfPassages(t *testing.T) { // P11.3
	l := parse(t, "manual M 0", "belt B 1 0 > M", "entry E 1 0 > A", "entry F 1 0 > M", "belt A 1 0 > B")
	step(t, l, "B=9 E=8 F=7", "", nil, "M=79 A=8", "9:B>M 8:E>A 7:F>M")
	step(t, l, "E=8 F=7 A=6", "", nil, "E=8 M=7 B=6", "7:F>M 6:A>B")
}

// refuse checks that Step returns an error, and nothing else.
func refuse(t *testing.T, l api.Layout, commands []int, faults []api.Fault, want api.Errno) {
	t.Helper()
	p := plantOf(t, l, "E=1 L=002 P=3")
	got, moved, e := Step(l, p, commands, faults)
	if _, flows := traffic.Flows(l, p, commands, faults); e != want || e != flows || !isZero(got) || len(moved) > 0 {
		t.Errorf("commands %v, faults %v: %v, %v, %d, not %d", commands, faults, got, moved, e, want)
	}
}

func TestStepErrors(t *testing.T) { // P11.2
	l := all(t)
	good := commandsOf(t, l, "L=1")
	refuse(t, l, nil, nil, api.ErrRange)
	refuse(t, l, good[1:], nil, api.ErrRange)
	refuse(t, l, append(slices.Clone(good), 0), nil, api.ErrRange)
	for _, text := range []string{"E=1", "E=-2", "S=1", "L=-1", "L=2", "G=2", "V=-2", "P=-1", "P=41", "C=1", "M=-1", "N=1"} {
		refuse(t, l, commandsOf(t, l, text), nil, api.ErrRange)
		refuse(t, l, commandsOf(t, l, text), make([]api.Fault, api.MaxFaults+1), api.ErrRange)
	}
	refuse(t, l, good, slices.Repeat([]api.Fault{sticks(0, 0)}, api.MaxFaults+1), api.ErrLimit)
	refuse(t, l, good, []api.Fault{{}}, api.ErrKind)
	refuse(t, l, good, []api.Fault{{Kind: api.FaultMiss}, sticks(99, 0)}, api.ErrKind)
	refuse(t, l, good, []api.Fault{sticks(4, 0)}, api.ErrRange) // a bin
	refuse(t, l, good, []api.Fault{sticks(-1, 0)}, api.ErrRange)
	refuse(t, l, good, []api.Fault{sticks(0, 1), {}}, api.ErrRange)
	refuse(t, l, good, []api.Fault{sticks(1, 0), slides(1, 0)}, api.ErrDuplicate)
}

func TestWhere(t *testing.T) { // P11.4
	l := all(t)
	p := plantOf(t, l, "E=1 S=23 L=405 V=06 P=7 M=89")
	for bag, place := range map[int]api.Place{1: {Node: 0}, 2: {Node: 1}, 3: {Node: 1, Window: 1}, 4: {Node: 2}, 5: {Node: 2, Window: 2}, 6: {Node: 5, Window: 1}, 7: {Node: 6, Window: -1}, 8: {Node: 4, Window: -1}, 9: {Node: 4, Window: -1}} {
		where(t, p, bag, place.Node, place.Window)
	}
	for _, bag := range []int{math.MinInt, -2, -1, 0, 10, api.MaxBags, api.MaxBags + 1, math.MaxInt} {
		nowhere(t, p, bag)
	}
	nowhere(t, plantOf(t, l, ""), 1)
	nowhere(t, api.Plant{}, 1)
	nowhere(t, api.Plant{}, 0)
}

func TestBags(t *testing.T) { // P11.4
	l := all(t)
	for text, want := range map[string][]int{
		"":                             nil,
		"E=3":                          {3},
		"M=2":                          {2},
		"E=9 S=53 L=402 P=17 M=68":     {1, 2, 3, 4, 5, 6, 7, 8, 9},
		"C=12 M=3 P=5 K=047":           {1, 2, 3, 4, 5, 7},
		"F=900 S=80 G=7 V=60 B=05 E=4": {4, 5, 6, 7, 8, 9},
	} {
		if got := Bags(plantOf(t, l, text)); !slices.Equal(got, want) {
			t.Error(text, got, want)
		}
	}
	p := plantOf(t, l, "")
	p.Slots[0][0], p.Slots[1][1], p.Bins[4] = 40, 11, []int{9, 10, 39}
	if got := Bags(p); !slices.Equal(got, []int{9, 10, 11, 39, 40}) {
		t.Error(got)
	}
	if got := Bags(api.Plant{}); len(got) != 0 {
		t.Error(got)
	}
}

func TestBound(t *testing.T) { // P11.4
	for _, l := range []api.Layout{example(t), all(t), parse(t, "entry E 1 0 > M", "manual M 0")} {
		windows := 0
		for _, n := range l.Nodes {
			windows += n.Length
		}
		for n := range api.MaxBags + 1 {
			if got := Bound(l, n); got != n*windows {
				t.Error(n, got, n*windows)
			}
		}
		for _, n := range []int{math.MinInt, -1 << 32, -3, -1} {
			if got := Bound(l, n); got != 0 {
				t.Error(n, got)
			}
		}
		for _, n := range []int{api.MaxBags + 1, 256, 1 << 32, 1 << 62, math.MaxInt} {
			if got := Bound(l, n); got != api.MaxBags*windows {
				t.Error(n, got)
			}
		}
	}
	for _, l := range []api.Layout{{}, {Nodes: []api.Node{{Name: "M", Kind: api.NodeManual, Length: math.MaxInt}}}} {
		if got := Bound(l, 3); got != 0 {
			t.Error(l, got)
		}
	}
}

func TestSame(t *testing.T) { // P11.4
	l := all(t)
	texts := []string{"", "E=1", "E=2", "S=10", "S=01", "M=1", "N=1", "P=1", "M=12", "M=2", "M=13", "L=123", "L=120", "L=012", "E=1 M=2", "E=2 M=1"}
	for i, a := range texts {
		for k, b := range texts {
			if got := Same(plantOf(t, l, a), plantOf(t, l, b)); got != (i == k) {
				t.Errorf("Same of %q and %q is %v", a, b, got)
			}
		}
	}
}

func TestSameOfOtherForms(t *testing.T) { // P11.4, rule 2
	rows := [][]int{{1}, {}}
	for _, c := range []struct {
		a, b api.Plant
		want bool
	}{
		{api.Plant{}, api.Plant{Slots: [][]int{}, Bins: [][]int{}}, true},
		{api.Plant{Slots: rows, Bins: rows}, api.Plant{Slots: [][]int{{1}, nil}, Bins: [][]int{{1}, nil}}, true},
		{api.Plant{Slots: rows}, api.Plant{Bins: rows}, false},
		{api.Plant{Slots: rows}, api.Plant{Slots: rows[:1]}, false},
		{api.Plant{Bins: rows[:1]}, api.Plant{Bins: rows}, false},
		{api.Plant{Slots: [][]int{nil}}, api.Plant{}, false},
		{api.Plant{Slots: [][]int{{1, 2}}}, api.Plant{Slots: [][]int{{2, 1}}}, false},
		{api.Plant{Slots: [][]int{{1}, {2}}}, api.Plant{Slots: [][]int{{1, 2}}}, false},
		{api.Plant{Slots: [][]int{{0}}}, api.Plant{Slots: [][]int{{}}}, false},
	} {
		if Same(c.a, c.b) != c.want || Same(c.b, c.a) != c.want {
			t.Error(c)
		}
	}
}
