package traffic

import (
	"math"
	"slices"
	"strconv"
	"strings"
	"testing"

	"baggage/api"
	"baggage/layout"
	"baggage/strip"
)

const (
	stick = api.FaultStick
	slide = api.FaultSlide
)

// parse returns the layout of some lines.
func parse(t *testing.T, lines ...string) api.Layout {
	t.Helper()
	l, line, e := layout.Parse(strings.Join(lines, "\n") + "\n")
	if e != api.OK {
		t.Fatal(lines, line, e)
	}
	return l
}

// node returns the index of the node with a name.
func node(t *testing.T, l api.Layout, name string) int {
	t.Helper()
	i := layout.Find(l, name)
	if i < 0 {
		t.Fatal("there is no node", name)
	}
	return i
}

// values calls f with each word of a text like "A=1 B=-1".
func values(t *testing.T, l api.Layout, text string, f func(i int, value string)) {
	t.Helper()
	for _, word := range strings.Fields(text) {
		name, value, _ := strings.Cut(word, "=")
		f(node(t, l, name), value)
	}
}

// plantOf returns the plant of a text like "B=010 P=49" with a digit for each window of a strip and each bag of a bin.
func plantOf(t *testing.T, l api.Layout, text string) api.Plant {
	t.Helper()
	p := api.Plant{Slots: make([][]int, len(l.Nodes)), Bins: make([][]int, len(l.Nodes))}
	for i, n := range l.Nodes {
		p.Slots[i] = make([]int, n.Length)
	}
	values(t, l, text, func(i int, value string) {
		var bags []int
		for _, digit := range value {
			bags = append(bags, int(digit-'0'))
		}
		switch {
		case layout.IsBin(l.Nodes[i]):
			p.Bins[i] = bags
		case len(bags) != l.Nodes[i].Length:
			t.Fatal(text)
		default:
			p.Slots[i] = bags
		}
	})
	return p
}

// commandsOf returns the commands of a text like "D=1 P=9", which are 0 for the other nodes.
func commandsOf(t *testing.T, l api.Layout, text string) []int {
	t.Helper()
	commands := make([]int, len(l.Nodes))
	values(t, l, text, func(i int, value string) {
		n, err := strconv.Atoi(value)
		if err != nil {
			t.Fatal(text)
		}
		commands[i] = n
	})
	return commands
}

// flowOf returns the flow of a text like "A=B L=L": bags go from A to B, and from L to itself.
func flowOf(t *testing.T, l api.Layout, text string) api.Flow {
	t.Helper()
	f := api.Flow{Leave: slices.Repeat([]int{-1}, len(l.Nodes)), Enter: slices.Repeat([]int{-1}, len(l.Nodes))}
	values(t, l, text, func(from int, value string) {
		to := node(t, l, value)
		f.Leave[from] = slices.Index(l.Nodes[from].Exits, to)
		if to != from && l.Nodes[to].Length > 0 {
			f.Enter[to] = from
		}
	})
	return f
}

func sameFlow(a, b api.Flow) bool {
	return slices.Equal(a.Leave, b.Leave) && slices.Equal(a.Enter, b.Enter)
}

// expect checks one result of Flows, where the texts say what is in the plant, what the commands are and which bags go.
func expect(t *testing.T, l api.Layout, bags, commands string, faults []api.Fault, want string) {
	t.Helper()
	got, e := Flows(l, plantOf(t, l, bags), commandsOf(t, l, commands), faults)
	if w := flowOf(t, l, want); e != api.OK || !sameFlow(got, w) {
		t.Errorf("bags %q, commands %q, faults %v: %v, %d, not %v (%s)", bags, commands, faults, got, e, w, want)
	}
}

func sticks(i, window int) api.Fault { return api.Fault{Kind: stick, Node: i, Window: window} }
func slides(i, window int) api.Fault { return api.Fault{Kind: slide, Node: i, Window: window} }

func TestExamples(t *testing.T) { // P10.3
	l := parse(t, "entry E 1 0 > A", "belt A 2 0 > C", "belt B 1 0 > C", "belt C 1 0 > M", "manual M 0")
	got, e := Flows(l, plantOf(t, l, "A=01 B=2"), make([]int, 5), nil)
	if e != api.OK || got.Enter[3] != 1 || got.Leave[1] != 0 || got.Leave[2] != -1 {
		t.Error(got, e)
	}
	l = parse(t, "entry E 1 0 > L", "loop L 4 0 > L M", "manual M 0")
	expect(t, l, "L=5007 E=1", "L=0", nil, "")
	expect(t, l, "L=0007 E=1", "L=0", nil, "L=L")
	l = parse(t, "entry E 1 0 > M", "store S 1 > B", "belt B 1 1 > C", "chute C 1", "manual M 0")
	expect(t, l, "S=49", "S=9", nil, "S=B")
}

// all returns a layout with all kinds. Everything leads to K: V, P, Q and X in zone 1.
func all(t *testing.T) api.Layout {
	t.Helper()
	return parse(t,
		"entry E 1 0 > S",
		"screen S 2 0 > L",
		"loop L 3 0 > L G",
		"gate G 1 0 > M V",
		"manual M 0",
		"diverter V 2 1 > P K",
		"store P 1 > K",
		"store Q 1 > K",
		"diverter X 1 1 > Q K",
		"loop K 3 1 > K B",
		"belt B 2 1 > C",
		"chute C 1",
		"manual N 1",
	)
}

// entrances checks one result of Entrances, where closed names the nodes that no bag can enter.
func entrances(t *testing.T, l api.Layout, bags, closed string) {
	t.Helper()
	want := slices.Repeat([]bool{true}, len(l.Nodes))
	values(t, l, closed, func(i int, _ string) { want[i] = false })
	if got := Entrances(l, plantOf(t, l, bags)); !slices.Equal(got, want) {
		t.Errorf("Entrances of %q: %v, not %v", bags, got, want)
	}
}

func TestEntrances(t *testing.T) { // P10.1
	l := all(t)
	entrances(t, l, "", "")
	entrances(t, l, "E=1 S=10 G=2 V=30 X=4 B=50", "E S G V X B")
	entrances(t, l, "S=01 V=03 B=05", "")
	entrances(t, l, "S=12 V=34 B=56", "S V B")
	entrances(t, l, "M=123 P=4 Q=56 C=789", "") // bins are never full
	for _, name := range []string{"L", "K"} {
		for bags, closed := range map[string]bool{"000": false, "100": true, "010": false, "001": false, "110": true, "101": true, "011": true, "111": true} {
			want := ""
			if closed {
				want = name
			}
			entrances(t, l, name+"="+bags, want)
		}
	}
	two := parse(t, "entry E 1 0 > L", "loop L 2 0 > L M", "manual M 0")
	entrances(t, two, "L=00", "")
	entrances(t, two, "L=01", "L")
	entrances(t, two, "L=10", "L")
	long := parse(t, "entry E 8 0 > L", "loop L 8 0 > L M", "manual M 0")
	entrances(t, long, "E=01234567 L=02345670", "")
	entrances(t, long, "E=12345678 L=02345678", "E L")
	if got := Entrances(api.Layout{}, api.Plant{}); len(got) != 0 {
		t.Error(got)
	}
}

// refuse checks that Flows returns an error, and nothing else.
func refuse(t *testing.T, l api.Layout, commands []int, faults []api.Fault, want api.Errno) {
	t.Helper()
	p := plantOf(t, l, "")
	for i, n := range l.Nodes {
		if n.Length > 0 {
			p.Slots[i][n.Length-1] = i + 1
		}
	}
	if f, e := Flows(l, p, commands, faults); e != want || len(f.Leave)+len(f.Enter) > 0 {
		t.Errorf("commands %v, faults %v: %v, %d, not %d", commands, faults, f, e, want)
	}
}

// accept checks that Flows returns no error, but an element for each node.
func accept(t *testing.T, l api.Layout, commands []int, faults []api.Fault) {
	t.Helper()
	if f, e := Flows(l, plantOf(t, l, ""), commands, faults); e != api.OK || len(f.Leave) != len(l.Nodes) || len(f.Enter) != len(l.Nodes) {
		t.Errorf("commands %v, faults %v: %v, %d", commands, faults, f, e)
	}
}

func TestCommands(t *testing.T) { // P10.2
	l := all(t)
	ranges := map[int][2]int{ // the least and the greatest command of each kind
		api.NodeEntry: {-1, 0}, api.NodeBelt: {-1, 0}, api.NodeScreen: {-1, 0}, api.NodeDiverter: {-1, 1}, api.NodeLoop: {0, 1},
		api.NodeGate: {-1, 1}, api.NodeStore: {0, api.MaxBags}, api.NodeChute: {0, 0}, api.NodeManual: {0, 0},
	}
	for i, n := range l.Nodes {
		least, most := ranges[n.Kind][0], ranges[n.Kind][1]
		for _, c := range []int{math.MinInt, math.MinInt32, -41, -3, -2, -1, 0, 1, 2, 3, 9, 39, 40, 41, 42, 255, 256, 1 << 32, math.MaxInt} {
			commands := make([]int, len(l.Nodes))
			commands[i] = c
			if c >= least && c <= most {
				accept(t, l, commands, nil)
			} else {
				refuse(t, l, commands, nil, api.ErrRange)
			}
		}
	}
}

func TestNumberOfCommands(t *testing.T) { // P10.2
	l := all(t)
	for n := range 40 {
		if n == len(l.Nodes) {
			accept(t, l, make([]int, n), nil)
		} else {
			refuse(t, l, make([]int, n), nil, api.ErrRange)
		}
	}
	refuse(t, l, nil, nil, api.ErrRange)
	refuse(t, l, make([]int, 100000), nil, api.ErrRange)
}

func TestFaults(t *testing.T) { // P10.2
	l := all(t)
	commands := make([]int, len(l.Nodes))
	for i := -1; i <= len(l.Nodes); i++ {
		for window := -1; window <= api.MaxLength; window++ {
			inside := i >= 0 && i < len(l.Nodes) && window >= 0 && window < l.Nodes[i].Length
			for kind := -1; kind <= 7; kind++ {
				fault := []api.Fault{{Kind: kind, Node: i, Window: window}}
				switch {
				case kind != stick && kind != slide:
					refuse(t, l, commands, fault, api.ErrKind)
				case !inside:
					refuse(t, l, commands, fault, api.ErrRange)
				default:
					accept(t, l, commands, fault)
				}
			}
		}
	}
	for _, n := range []int{math.MinInt, math.MinInt32, 256, 1 << 32, math.MaxInt} {
		refuse(t, l, commands, []api.Fault{{Kind: n, Node: 1}}, api.ErrKind)
		refuse(t, l, commands, []api.Fault{sticks(n, 0)}, api.ErrRange)
		refuse(t, l, commands, []api.Fault{slides(1, n)}, api.ErrRange)
	}
}

func TestNumberOfFaults(t *testing.T) { // P10.2
	l := all(t)
	commands := make([]int, len(l.Nodes))
	different := []api.Fault{sticks(0, 0), slides(1, 0), sticks(1, 1), sticks(2, 0), slides(2, 1), sticks(9, 2)}
	for n := range len(different) + 1 {
		if n <= api.MaxFaults {
			accept(t, l, commands, different[:n])
		} else {
			refuse(t, l, commands, different[:n], api.ErrLimit)
		}
	}
	refuse(t, l, commands, make([]api.Fault, 100000), api.ErrLimit)
}

func TestEqualFaults(t *testing.T) { // P10.2
	l := all(t)
	commands := make([]int, len(l.Nodes))
	for _, kinds := range [][2]int{{stick, stick}, {stick, slide}, {slide, stick}, {slide, slide}} {
		for a := range api.MaxFaults {
			for b := range a {
				faults := []api.Fault{sticks(1, 0), sticks(2, 0), slides(2, 2), slides(9, 0)}
				faults[a] = api.Fault{Kind: kinds[0], Node: 1, Window: 1}
				accept(t, l, commands, faults)
				faults[b] = api.Fault{Kind: kinds[1], Node: 1, Window: 1}
				refuse(t, l, commands, faults, api.ErrDuplicate)
			}
		}
	}
}

func TestOrderOfErrors(t *testing.T) { // P10.2
	l := all(t)
	good := make([]int, len(l.Nodes))
	bad := slices.Clone(good)
	bad[len(bad)-1] = 1
	kind, place := api.Fault{Kind: api.FaultMiss, Node: 1}, sticks(1, 2)
	both := api.Fault{Kind: api.FaultGhost, Node: -1, Window: 9}
	for _, c := range []struct {
		faults []api.Fault
		want   api.Errno
	}{
		{slices.Repeat([]api.Fault{kind}, api.MaxFaults+1), api.ErrLimit},
		{slices.Repeat([]api.Fault{place}, api.MaxFaults+1), api.ErrLimit},
		{slices.Repeat([]api.Fault{sticks(1, 1)}, api.MaxFaults+1), api.ErrLimit},
		{[]api.Fault{both}, api.ErrKind},
		{[]api.Fault{kind, place}, api.ErrKind}, // the first fault with an error
		{[]api.Fault{place, kind}, api.ErrRange},
		{[]api.Fault{sticks(1, 1), place, kind}, api.ErrRange},
		{[]api.Fault{sticks(1, 1), both, place}, api.ErrKind},
		{[]api.Fault{sticks(1, 1), sticks(1, 1), kind}, api.ErrKind},
		{[]api.Fault{sticks(1, 1), sticks(1, 1), sticks(1, 0), place}, api.ErrRange},
		{[]api.Fault{place, place}, api.ErrRange},
		{[]api.Fault{kind, kind}, api.ErrKind},
		{[]api.Fault{sticks(1, 1), slides(1, 1)}, api.ErrDuplicate},
	} {
		refuse(t, l, good, c.faults, c.want)
		refuse(t, l, bad, c.faults, api.ErrRange)
		refuse(t, l, good[1:], c.faults, api.ErrRange)
	}
}

func TestReady(t *testing.T) { // P10.3
	l := parse(t, "entry E 3 0 > B", "belt B 2 0 > M", "manual M 0")
	expect(t, l, "", "", nil, "")
	expect(t, l, "E=001", "", nil, "E=B")
	expect(t, l, "E=001", "E=-1", nil, "")
	expect(t, l, "E=001", "B=-1", nil, "E=B") // the command of another node
	expect(t, l, "E=010", "", nil, "")        // not in the last window
	expect(t, l, "E=120 B=30", "", nil, "")
	expect(t, l, "E=010", "", []api.Fault{slides(0, 1)}, "") // not over the end of the strip
	expect(t, l, "E=001", "", []api.Fault{sticks(0, 2)}, "")
	expect(t, l, "E=001", "", []api.Fault{slides(0, 2)}, "E=B")
	expect(t, l, "E=231", "", []api.Fault{sticks(0, 0), sticks(0, 1), sticks(1, 0), sticks(1, 1)}, "E=B") // faults at other windows
	expect(t, l, "E=001", "E=-1", []api.Fault{sticks(0, 2)}, "")
	expect(t, l, "E=001 B=02", "", nil, "E=B B=M")
	expect(t, l, "E=001 B=02", "B=-1", nil, "E=B") // the window 0 is empty all the same
	expect(t, l, "E=001 B=20", "", nil, "")        // it will be empty, but is not before the tick
	expect(t, l, "E=001 B=20", "B=-1", nil, "")
	expect(t, l, "E=001 B=23", "", nil, "B=M")
	expect(t, l, "E=001 B=02", "", []api.Fault{sticks(0, 2), sticks(1, 1)}, "")
	expect(t, l, "E=001 B=02", "", []api.Fault{sticks(0, 1), sticks(1, 1)}, "E=B")
}

func TestExits(t *testing.T) { // P10.3
	l := all(t)
	expect(t, l, "E=1", "", nil, "E=S")
	expect(t, l, "S=01", "", nil, "S=L")
	expect(t, l, "S=01", "S=-1", nil, "")
	expect(t, l, "L=001", "L=0", nil, "L=L")
	expect(t, l, "L=001", "L=1", nil, "L=G")
	expect(t, l, "G=1", "G=0", nil, "G=M")
	expect(t, l, "G=1", "G=1", nil, "G=V")
	expect(t, l, "G=1", "G=-1", nil, "")
	expect(t, l, "V=01", "V=0", nil, "V=P")
	expect(t, l, "V=01", "V=1", nil, "V=K")
	expect(t, l, "V=01", "V=-1", nil, "")
	expect(t, l, "B=01", "", nil, "B=C")
	expect(t, l, "B=01", "B=-1", nil, "")
	expect(t, l, "G=1 V=20", "G=1", nil, "") // it does not take another exit because one is closed
	expect(t, l, "V=01 K=200", "V=1", nil, "")
	expect(t, l, "E=1 S=02 L=003 V=04 K=005 B=06", "L=1 K=1 V=1", nil, "E=S S=L L=G V=K K=B B=C")
	expect(t, l, "E=1 S=02 L=003 G=7 V=04 K=005 B=06", "L=1 K=1 G=1 V=1", nil, "E=S L=L G=V V=K K=B B=C") // G was not empty, and L turns in the way of S
}

func TestBins(t *testing.T) { // P10.3
	l := parse(t, "entry E 1 0 > M", "diverter D 2 0 > M B", "loop L 2 0 > L M", "belt B 1 0 > M", "manual M 0", "gate G 1 0 > M V", "diverter V 1 1 > C P", "store P 1 > Z", "diverter W 1 1 > P C", "loop K 2 1 > K P", "belt Z 1 1 > C", "chute C 1")
	expect(t, l, "E=1 D=02 L=03 B=4 G=5", "L=1", nil, "E=M D=M L=M B=M G=M")
	expect(t, l, "E=1 D=02 L=03 B=4 G=5 M=6789", "L=1 D=-1", []api.Fault{sticks(3, 0)}, "E=M L=M G=M")
	expect(t, l, "V=1 W=2", "W=1", nil, "V=C W=C")
	expect(t, l, "V=1 W=3 K=02 P=45", "V=1 K=1 P=4", nil, "V=P W=P K=P P=Z")
	expect(t, l, "L=23 E=1", "L=1", nil, "E=M L=M") // also where it may not turn
	parallel := parse(t, "entry E 1 0 > M", "store P 1 > Q", "store Q 1 > C", "store R 1 > C", "chute C 1", "manual M 0")
	expect(t, parallel, "P=12 Q=34 R=56 C=78", "P=1 Q=4 R=5", nil, "P=Q Q=C R=C")
	expect(t, parallel, "P=12 Q=34 R=56", "P=3 Q=4 R=0", nil, "Q=C")
}

func TestStores(t *testing.T) { // P10.3
	l := parse(t, "entry E 1 0 > M", "belt A 1 1 > B", "store S 1 > B", "store R 1 > B", "belt B 2 1 > C", "chute C 1", "manual M 0")
	expect(t, l, "S=49", "S=4", nil, "S=B")
	expect(t, l, "S=49", "S=9", nil, "S=B")
	expect(t, l, "S=49", "S=0", nil, "")
	expect(t, l, "S=49", "S=5", nil, "") // not there
	expect(t, l, "S=49", "S=40", nil, "")
	expect(t, l, "", "S=4", nil, "")
	expect(t, l, "R=4", "S=4", nil, "") // in another Store
	expect(t, l, "R=4", "S=4 R=4", nil, "R=B")
	expect(t, l, "A=4", "S=4", nil, "A=B")
	expect(t, l, "S=49 B=10", "S=9", nil, "")
	expect(t, l, "S=49 B=01", "S=9", nil, "S=B B=C")
	expect(t, l, "A=1 S=4 R=5", "S=4 R=5", nil, "A=B")
	expect(t, l, "S=4 R=5", "S=4 R=5", nil, "S=B")
	expect(t, l, "S=4 R=5", "S=5 R=5", nil, "R=B")
	expect(t, l, "A=1 S=4 R=5", "A=-1 S=4 R=5", []api.Fault{sticks(4, 1)}, "S=B")
}

func TestMerges(t *testing.T) { // P10.3
	// B is between the nodes that lead to it, and each of them leads to it by the exit named here.
	l := parse(t, "diverter D 1 0 > M B", "belt A 2 0 > B", "loop L 3 0 > L B", "belt B 1 0 > M", "gate G 1 0 > B C", "entry E 1 0 > B", "manual M 0", "chute C 1")
	names, bags, exits := []string{"D", "A", "L", "G", "E"}, []string{"1", "02", "003", "4", "5"}, []string{"1", "0", "1", "0", "0"}
	for set := range 1 << len(names) {
		text, commands, first := "", "", ""
		for k, name := range names {
			if set&(1<<k) == 0 {
				continue
			}
			text += " " + name + "=" + bags[k]
			commands += " " + name + "=" + exits[k]
			if first == "" {
				first = name
			}
		}
		want := ""
		if first != "" {
			want = first + "=B"
		}
		turn := ""
		if strings.Contains(text, "L=") { // it turns where it cannot go on
			turn = " L=L"
		}
		if first == "L" {
			turn = ""
		}
		expect(t, l, text, commands, nil, want+turn)
		expect(t, l, text+" B=6", commands, nil, "B=M"+strings.Repeat(" L=L", strings.Count(text, "L=")))
	}
	expect(t, l, "D=1 A=02 E=5", "D=0", nil, "D=M A=B") // D wants to go elsewhere
	expect(t, l, "D=1 A=02 E=5", "D=1", nil, "D=B")
	expect(t, l, "D=1 A=02 E=5", "D=1", []api.Fault{sticks(0, 0)}, "A=B")
	expect(t, l, "D=1 A=02 E=5", "D=1 A=-1", []api.Fault{sticks(0, 0)}, "E=B")
	expect(t, l, "D=1 A=20 E=5", "D=-1", nil, "E=B")
	expect(t, l, "A=02 L=003", "A=-1 L=0", nil, "L=L")
	expect(t, l, "G=4 E=5", "G=1", nil, "G=C E=B")
	expect(t, l, "G=4 E=5", "G=0", nil, "G=B")
}

func TestLoops(t *testing.T) { // P10.3
	l := parse(t, "entry E 1 0 > L", "loop L 4 0 > L B", "belt B 1 0 > M", "manual M 0", "belt A 1 0 > L")
	last := []api.Fault{sticks(1, 3)}
	for _, c := range []struct {
		bags, commands string
		faults         []api.Fault
		want           string
	}{
		{"L=0001", "L=0", nil, "L=L"},
		{"L=0231", "L=0", nil, "L=L"}, // into the only empty window
		{"L=2001", "L=0", nil, ""},
		{"L=2001", "L=0", last, ""},
		{"L=0001", "L=0", last, ""},
		{"L=0001", "L=0", []api.Fault{slides(1, 3), sticks(1, 0)}, "L=L"},
		{"L=0010", "L=0", nil, ""}, // no last bag
		{"L=0001", "L=1", nil, "L=B"},
		{"L=2001", "L=1", nil, "L=B"}, // the window 0 plays no part there
		{"L=0001 B=3", "L=1", nil, "L=L B=M"},
		{"L=2001 B=3", "L=1", nil, "B=M"},
		{"L=0001 B=3", "L=1", last, "B=M"},
		{"L=0001", "L=1", last, ""},
		{"L=0001 E=5", "L=0", nil, "L=L"}, // its own bag is the first one
		{"L=0001 E=5", "L=0", last, "E=L"},
		{"L=0001 E=5", "L=1", nil, "L=B E=L"},
		{"L=0001 E=5", "L=1", last, "E=L"},
		{"L=0001 E=5 B=3", "L=1", nil, "L=L B=M"},
		{"L=0001 E=5 B=3", "L=1", last, "E=L B=M"},
		{"L=0010 E=5", "L=0", nil, "E=L"},
		{"L=0110 E=5", "L=0", nil, "E=L"},
		{"L=0231 E=5", "L=0", last, ""}, // only one empty window
		{"L=0231 E=5", "L=1", nil, "L=B"},
		{"L=0201 E=5", "L=1", nil, "L=B E=L"},
		{"L=2001 E=5", "L=1", nil, "L=B"},
		{"L=2000 E=5", "L=1", nil, ""},
		{"L=0000 E=5 A=6", "L=1", nil, "E=L"},
		{"L=0000 E=5 A=6", "E=-1", nil, "A=L"},
		{"L=0001 E=5 A=6", "L=0", nil, "L=L"},
		{"L=0001 E=5 A=6", "L=1 E=-1", nil, "L=B A=L"},
	} {
		expect(t, l, c.bags, c.commands, c.faults, c.want)
	}
	two := parse(t, "entry E 1 0 > L", "loop L 2 0 > L M", "manual M 0")
	expect(t, two, "L=01 E=5", "L=0", nil, "L=L")
	expect(t, two, "L=01 E=5", "L=1", nil, "L=M") // there was one empty window before the tick
	expect(t, two, "L=00 E=5", "L=0", nil, "E=L")
	expect(t, two, "L=10 E=5", "L=0", nil, "")
}

func TestLoopsThatWaitForEachOther(t *testing.T) { // P10.3
	// The names are against the order of the layout, so that the indices are of no use for it.
	l := parse(t, "loop C 3 0 > C D", "loop B 3 0 > B C", "manual M 0", "loop D 3 0 > D M", "loop A 3 0 > A B", "entry E 1 0 > A")
	bags := "E=1 A=002 B=003 C=004 D=005"
	expect(t, l, bags, "A=1 B=1 C=1 D=1", nil, "E=A A=B B=C C=D D=M")
	expect(t, l, bags, "A=1 B=1 C=1 D=0", nil, "A=A B=B C=C D=D") // D turns, so that none can go on
	expect(t, l, bags, "A=1 B=1 C=0 D=1", nil, "A=A B=B C=C D=M")
	expect(t, l, bags, "A=1 B=1 C=1 D=0", []api.Fault{sticks(3, 2)}, "E=A A=B B=C C=D")
	expect(t, l, bags, "A=1 B=1 C=1 D=0", []api.Fault{sticks(0, 2)}, "E=A A=B B=C D=D")
	expect(t, l, "E=1 A=002 B=003 C=004 D=605", "A=1 B=1 C=1 D=0", nil, "A=A B=B C=C")
	expect(t, l, "E=1 A=002 B=003 C=704 D=605", "A=1 B=1 C=1 D=0", nil, "A=A B=B")
	expect(t, l, "E=1 A=002 B=003 C=704 D=605", "A=1 B=1 C=1 D=1", nil, "A=A B=B D=M")
	expect(t, l, "E=1 A=002 B=083 C=004", "A=1 B=1 C=1", nil, "A=A B=C C=D")
	for _, order := range [][2]string{{"entry E 1 0 > B", "loop L 2 0 > L B"}, {"loop L 2 0 > L B", "entry E 1 0 > B"}} {
		l := parse(t, order[0], order[1], "belt B 1 0 > M", "manual M 0", "entry F 1 0 > L")
		want := "E=B L=L"
		if layout.Find(l, "L") == 0 {
			want = "L=B"
		}
		expect(t, l, "E=1 L=02 F=3", "L=1", nil, want) // L has only one empty window for F
		expect(t, l, "E=1 L=00 F=3", "L=1", nil, "E=B F=L")
	}
	l = parse(t, "entry E 1 0 > B", "loop L 3 0 > L B", "belt B 1 0 > M", "manual M 0", "entry F 1 0 > L")
	expect(t, l, "E=1 L=002 F=3", "L=1", nil, "E=B L=L") // L does not get away from F's entrance
	expect(t, l, "E=1 L=002 F=3", "L=1 E=-1", nil, "L=B F=L")
}

// judge is a second reading of P10.3, without an order of the nodes: it returns what is wrong with a flow, which settles each rule by what the flow says of the other bags.
func judge(l api.Layout, p api.Plant, commands []int, faults []api.Fault, f api.Flow) string {
	wish := slices.Repeat([]int{-1}, len(l.Nodes)) // the exits that ready bags want
	for i, n := range l.Nodes {
		switch last := n.Length - 1; {
		case n.Kind == api.NodeStore && slices.Contains(p.Bins[i], commands[i]):
			wish[i] = 0
		case n.Length > 0 && p.Slots[i][last] != 0 && !slices.Contains(faults, sticks(i, last)):
			wish[i] = commands[i]
		}
	}
	for i, n := range l.Nodes {
		want := -1
		if wish[i] >= 0 && (n.Kind != api.NodeLoop || wish[i] == 1) && goes(l, p, wish, f, i) {
			want = wish[i]
		}
		if n.Kind == api.NodeLoop && wish[i] >= 0 && want == -1 && p.Slots[i][0] == 0 {
			want = 0
		}
		if f.Leave[i] != want {
			return "Leave of " + n.Name
		}
		enter := -1
		for k, m := range l.Nodes {
			if x := f.Leave[k]; k != i && n.Length > 0 && x >= 0 && m.Exits[x] == i {
				if enter >= 0 {
					return "two bags enter " + n.Name
				}
				enter = k
			}
		}
		if f.Enter[i] != enter {
			return "Enter of " + n.Name
		}
	}
	return ""
}

// goes reports whether the bag of the node i goes outside, to where it wants.
func goes(l api.Layout, p api.Plant, wish []int, f api.Flow, i int) bool {
	to := l.Nodes[i].Exits[wish[i]]
	n := l.Nodes[to]
	if n.Length == 0 {
		return true
	}
	for k := range i {
		if k != to && wish[k] >= 0 && l.Nodes[k].Exits[wish[k]] == to {
			return false
		}
	}
	free := 0
	for _, bag := range p.Slots[to] {
		if bag == 0 {
			free++
		}
	}
	if n.Kind == api.NodeLoop && (free < 2 || f.Leave[to] == 0) {
		return false
	}
	return p.Slots[to][0] == 0
}

// check holds the result of Flows against the second reading.
func check(t *testing.T, l api.Layout, p api.Plant, commands []int, faults []api.Fault) api.Flow {
	t.Helper()
	f, e := Flows(l, p, commands, faults)
	if e != api.OK || len(f.Leave) != len(l.Nodes) || len(f.Enter) != len(l.Nodes) {
		t.Fatal(l, p, commands, faults, f, e)
	}
	if wrong := judge(l, p, commands, faults, f); wrong != "" {
		t.Fatal(wrong, l, p, commands, faults, f)
	}
	return f
}

func TestAllPlantsOfASmallLayout(t *testing.T) { // P10.3
	l := parse(t, "loop K 2 0 > K M", "entry E 1 0 > L", "loop L 3 0 > L K", "entry F 1 0 > K", "manual M 0")
	last := []api.Fault{sticks(0, 1), sticks(1, 0), sticks(2, 2), sticks(3, 0)}
	for set := range 1 << 7 {
		p, window := plantOf(t, l, ""), 0
		for i := range p.Slots {
			for k := range p.Slots[i] {
				p.Slots[i][k] = set >> window & 1 * (window + 1)
				window++
			}
		}
		if strip.Free(p.Slots[0]) == 0 || strip.Free(p.Slots[2]) == 0 {
			continue
		}
		for c := range 1 << 4 {
			commands := []int{c & 1, -(c >> 1 & 1), c >> 2 & 1, -(c >> 3 & 1), 0}
			for stuck := range 1 << 4 {
				var faults []api.Fault
				for k, fault := range last {
					if stuck>>k&1 == 1 {
						faults = append(faults, fault)
					}
				}
				check(t, l, p, commands, faults)
			}
		}
	}
}

// random is a sequence of numbers that looks random.
type random uint32

// below returns a number from 0 to n-1.
func (r *random) below(n int) int {
	*r = *r*1664525 + 1013904223
	return int(*r>>8) % n
}

// plans returns layouts in which many nodes lead to the same ones.
func plans(t *testing.T) []api.Layout {
	t.Helper()
	return []api.Layout{
		all(t),
		parse(t, "entry E 1 0 > B", "entry F 2 0 > B", "entry G 1 0 > D", "diverter D 2 0 > B C", "diverter H 1 0 > C B", "belt B 3 0 > C", "belt C 1 0 > M", "manual M 0"),
		parse(t, "entry E 1 0 > L", "loop L 3 0 > L K", "entry F 1 0 > D", "diverter D 1 0 > L K", "loop K 2 0 > K N", "entry G 1 0 > N", "loop J 2 0 > J K", "loop N 4 0 > N M", "manual M 0"),
		parse(t, "entry E 1 0 > G", "gate G 1 0 > F V", "gate F 1 0 > M V", "manual M 0", "diverter V 1 1 > P L", "store P 1 > L", "store Q 1 > L", "store R 1 > B", "loop L 3 1 > L B", "diverter B 1 1 > C H", "belt W 2 1 > B", "chute C 1", "chute H 1"),
	}
}

// shuffled returns a layout with other indices for its nodes and other lengths.
func (r *random) shuffled(l api.Layout) api.Layout {
	var at []int // the new index of each node
	for i := range l.Nodes {
		at = slices.Insert(at, r.below(i+1), i)
	}
	s := api.Layout{Nodes: make([]api.Node, len(l.Nodes))}
	for i, n := range l.Nodes {
		n.Exits = slices.Clone(n.Exits)
		for k, to := range n.Exits {
			n.Exits[k] = at[to]
		}
		switch {
		case n.Kind == api.NodeLoop:
			n.Length = 2 + r.below(3)
		case n.Length > 0:
			n.Length = 1 + r.below(3)
		}
		s.Nodes[at[i]] = n
	}
	return s
}

// plant returns a plant in which no Loop is full; of each number of windows, about full of eight have bags.
func (r *random) plant(l api.Layout, full int) api.Plant {
	p := api.Plant{Slots: make([][]int, len(l.Nodes)), Bins: make([][]int, len(l.Nodes))}
	var bags []int
	for b := range api.MaxBags {
		bags = slices.Insert(bags, r.below(b+1), b+1)
	}
	next := func() int {
		if len(bags) == 0 || r.below(8) >= full {
			return 0
		}
		b := bags[0]
		bags = bags[1:]
		return b
	}
	for i, n := range l.Nodes {
		p.Slots[i] = make([]int, n.Length)
		for k := range p.Slots[i] {
			p.Slots[i][k] = next()
		}
		if n.Kind == api.NodeLoop && strip.Free(p.Slots[i]) == 0 {
			p.Slots[i][r.below(n.Length)] = 0
		}
	}
	for i, n := range l.Nodes {
		if layout.IsBin(n) && len(bags) > 3 {
			p.Bins[i], bags = slices.Sorted(slices.Values(bags[:3])), bags[3:]
		}
	}
	return p
}

// commands returns commands that let most bags go.
func (r *random) commands(l api.Layout, p api.Plant) []int {
	commands := make([]int, len(l.Nodes))
	for i, n := range l.Nodes {
		switch {
		case n.Kind == api.NodeStore:
			commands[i] = r.below(api.MaxBags + 1)
			if len(p.Bins[i]) > 0 && r.below(3) > 0 {
				commands[i] = p.Bins[i][r.below(len(p.Bins[i]))]
			}
		case n.Length > 0:
			commands[i] = r.below(len(n.Exits))
			if n.Kind != api.NodeLoop && r.below(6) == 0 {
				commands[i] = -1
			}
		}
	}
	return commands
}

// faults returns some movement faults at different windows, most of them at last ones.
func (r *random) faults(l api.Layout) []api.Fault {
	var faults []api.Fault
	for range r.below(api.MaxFaults + 1) {
		f := api.Fault{Kind: stick + r.below(2), Node: r.below(len(l.Nodes))}
		length := l.Nodes[f.Node].Length
		if length == 0 {
			continue
		}
		f.Window = max(0, length-1-r.below(2))
		if !slices.ContainsFunc(faults, func(o api.Fault) bool { return o.Node == f.Node && o.Window == f.Window }) {
			faults = append(faults, f)
		}
	}
	return faults
}

func TestManyPlants(t *testing.T) { // P10.3
	r, went, waited, turned := random(1), 0, 0, 0
	for k := range 6000 {
		for _, plan := range plans(t) {
			l := r.shuffled(plan)
			p := r.plant(l, k%9)
			f := check(t, l, p, r.commands(l, p), r.faults(l))
			for i, n := range l.Nodes {
				switch {
				case n.Kind == api.NodeLoop && f.Leave[i] == 0:
					turned++
				case f.Leave[i] >= 0:
					went++
				case n.Length > 0 && p.Slots[i][n.Length-1] > 0:
					waited++
				}
			}
		}
	}
	if went < 10000 || waited < 10000 || turned < 1000 {
		t.Error("seldom:", went, waited, turned)
	}
}

// advance returns the plant after a tick in which the bags of the strips move as strip.Advance says, and the others as a flow says.
func advance(l api.Layout, p api.Plant, commands []int, faults []api.Fault, f api.Flow) (api.Plant, bool) {
	next := api.Plant{Slots: make([][]int, len(l.Nodes)), Bins: make([][]int, len(l.Nodes))}
	bags := make([]int, len(l.Nodes)) // those that leave
	for i, n := range l.Nodes {
		list := make([]int, n.Length)
		for _, fault := range faults {
			if fault.Node == i {
				list[fault.Window] = fault.Kind
			}
		}
		next.Slots[i], bags[i] = strip.Advance(p.Slots[i], list, f.Leave[i] >= 0)
		next.Bins[i] = slices.Clone(p.Bins[i])
		if n.Kind == api.NodeStore && f.Leave[i] == 0 {
			bags[i] = commands[i]
			next.Bins[i] = slices.DeleteFunc(next.Bins[i], func(bag int) bool { return bag == commands[i] })
		}
	}
	for i, bag := range bags {
		if (bag != 0) != (f.Leave[i] >= 0) {
			return next, false
		}
		if bag == 0 {
			continue
		}
		to, ok := l.Nodes[i].Exits[f.Leave[i]], true
		if layout.IsBin(l.Nodes[to]) {
			next.Bins[to] = slices.Sorted(slices.Values(append(next.Bins[to], bag)))
		} else if next.Slots[to], ok = strip.Push(next.Slots[to], bag); !ok {
			return next, false
		}
	}
	return next, true
}

// inside returns all bags of a plant, ascending.
func inside(p api.Plant) []int {
	var bags []int
	for i := range p.Slots {
		bags = append(append(bags, strip.Bags(p.Slots[i])...), p.Bins[i]...)
	}
	slices.Sort(bags)
	return bags
}

func TestManyTicks(t *testing.T) { // P10.1, P10.3, the consequences
	r := random(2)
	for range 120 {
		for _, plan := range plans(t) {
			l := r.shuffled(plan)
			p, put := r.plant(l, 0), []int{}
			for i := range p.Bins { // bags come only by Entries here
				p.Bins[i] = nil
			}
			for range 150 {
				for i, open := range Entrances(l, p) {
					if l.Nodes[i].Kind == api.NodeEntry && open && len(put) < api.MaxBags {
						put = append(put, len(put)+1)
						p.Slots[i], _ = strip.Push(p.Slots[i], len(put))
					}
				}
				commands, faults := r.commands(l, p), r.faults(l)
				f := check(t, l, p, commands, faults)
				next, ok := advance(l, p, commands, faults, f)
				if !ok || !slices.Equal(inside(next), put) {
					t.Fatal("bags do not go as the flow says:", l, p, commands, faults, f, next)
				}
				for i, n := range l.Nodes {
					if n.Kind == api.NodeLoop && strip.Free(next.Slots[i]) == 0 {
						t.Fatal("full:", n.Name, l, p, commands, faults, f)
					}
				}
				p = next
			}
		}
	}
}

func TestBagsStayForAReason(t *testing.T) { // the consequences
	r, stayed := random(3), 0
	for range 3000 {
		for _, plan := range plans(t) {
			l := r.shuffled(plan)
			p := r.plant(l, 4)
			commands := r.commands(l, p)
			f, _ := Flows(l, p, commands, nil)
			open := Entrances(l, p)
			for i, n := range l.Nodes {
				if n.Length == 0 || p.Slots[i][n.Length-1] == 0 || commands[i] < 0 {
					continue
				}
				to := n.Exits[commands[i]]
				if to == i || f.Leave[i] == commands[i] || !open[to] {
					continue
				}
				stayed++
				if f.Enter[to] < 0 && !(l.Nodes[to].Kind == api.NodeLoop && f.Leave[to] == 0) {
					t.Fatal(n.Name, "stays for no bag:", l, p, commands, f)
				}
			}
		}
	}
	if stayed < 300 {
		t.Error("seldom:", stayed)
	}
}

func TestLargestLayout(t *testing.T) { // rule 1, P10.3
	var l api.Layout // a chain of Loops, each of which can go on only if all before it do
	for i := range api.MaxNodes - 1 {
		l.Nodes = append(l.Nodes, api.Node{Name: "L" + strconv.Itoa(i), Kind: api.NodeLoop, Length: 3, Exits: []int{i, i + 1}})
	}
	l.Nodes[0] = api.Node{Name: "E", Kind: api.NodeEntry, Length: 1, Exits: []int{1}}
	l.Nodes = append(l.Nodes, api.Node{Name: "M", Kind: api.NodeManual})
	p := api.Plant{Slots: make([][]int, api.MaxNodes), Bins: make([][]int, api.MaxNodes)}
	commands := slices.Repeat([]int{1}, api.MaxNodes)
	commands[0], commands[api.MaxNodes-1] = 0, 0
	for i, n := range l.Nodes[:api.MaxNodes-1] {
		p.Slots[i] = make([]int, n.Length)
		p.Slots[i][n.Length-1] = i + 1
	}
	f := check(t, l, p, commands, nil)
	if want := append(slices.Clone(commands[:api.MaxNodes-1]), -1); !slices.Equal(f.Leave, want) {
		t.Error(f.Leave, want)
	}
	commands[api.MaxNodes-2] = 0
	f = check(t, l, p, commands, nil)
	if want := append(append([]int{-1}, make([]int, api.MaxNodes-2)...), -1); !slices.Equal(f.Leave, want) {
		t.Error(f.Leave, want)
	}
}

// spoil changes a layout, a plant, commands or faults so that they do not have their form.
func (r *random) spoil(l *api.Layout, p *api.Plant, commands *[]int, faults *[]api.Fault) {
	numbers := []int{math.MinInt, -2, -1, 0, 1, 2, 5, 9, 14, 40, math.MaxInt}
	pick := func() int { return numbers[r.below(len(numbers))] }
	i := r.below(len(l.Nodes))
	switch r.below(12) {
	case 0:
		l.Nodes[i].Kind = pick()
	case 1:
		l.Nodes[i].Length = pick()
	case 2:
		l.Nodes[i].Exits = []int{pick(), pick(), pick()}[:r.below(4)]
	case 3:
		l.Nodes = l.Nodes[:1+i]
		*commands = (*commands)[:1+i]
	case 4:
		*commands = append(*commands, pick())[r.below(2):]
	case 5:
		(*commands)[i] = pick()
	case 6:
		*faults = append(*faults, api.Fault{Kind: pick(), Node: pick(), Window: pick()})
	case 7:
		p.Slots = p.Slots[:r.below(len(p.Slots)+1)]
	case 8:
		p.Bins = p.Bins[:r.below(len(p.Bins)+1)]
	case 9:
		p.Slots = append(p.Slots, []int{1, 2})
	case 10:
		if i < len(p.Slots) {
			p.Slots[i] = []int{pick(), pick(), pick()}[:r.below(4)]
		}
	case 11:
		if i < len(p.Bins) {
			p.Bins[i] = []int{pick(), pick(), pick()}[:r.below(4)]
		}
	}
}

func TestAnyArguments(t *testing.T) { // rule 1, rule 3
	r := random(4)
	for range 4000 {
		for _, plan := range plans(t) {
			l := r.shuffled(plan)
			p := r.plant(l, 5)
			commands, faults := r.commands(l, p), r.faults(l)
			for range 1 + r.below(3) {
				if len(commands) == len(l.Nodes) {
					r.spoil(&l, &p, &commands, &faults)
				}
			}
			if got := Entrances(l, p); len(got) != len(l.Nodes) {
				t.Fatal(l, p, got)
			}
			f, e := Flows(l, p, commands, faults)
			want := len(l.Nodes)
			if e != api.OK {
				want = 0
			}
			if len(f.Leave) != want || len(f.Enter) != want {
				t.Fatal(l, p, commands, faults, f, e)
			}
		}
	}
	Entrances(all(t), api.Plant{})
	Flows(all(t), api.Plant{}, make([]int, 13), nil)
	Flows(api.Layout{}, api.Plant{Slots: [][]int{{1}}}, nil, nil)
	Flows(api.Layout{Nodes: make([]api.Node, 100000)}, api.Plant{}, make([]int, 100000), nil)
}

// spare returns a list whose spare capacity is not empty.
func spare[T any](l []T, extra T) []T {
	return append(slices.Clone(l), extra, extra, extra)[:len(l)]
}

// extended returns a list with its spare capacity.
func extended[T any](l []T) []T { return l[:cap(l)] }

// spareArguments returns a layout, a plant, commands and faults with spare capacity everywhere, and a function that tells whether all of it is as it was.
func spareArguments(t *testing.T) (api.Layout, api.Plant, []int, []api.Fault, func() bool) {
	t.Helper()
	l := all(t)
	p := plantOf(t, l, "E=1 S=02 L=003 V=04 P=56 Q=7 K=008 M=9")
	commands, faults := commandsOf(t, l, "L=1 V=1 P=5 K=1"), []api.Fault{sticks(1, 1), slides(2, 2)}
	odd, fault := []int{8, 8}, api.Fault{Kind: 9, Node: 9, Window: 9}
	build := func() (api.Layout, api.Plant, []int, []api.Fault) {
		a := api.Layout{Nodes: spare(l.Nodes, api.Node{Name: "SPARE"})}
		b := api.Plant{Slots: spare(p.Slots, odd), Bins: spare(p.Bins, odd)}
		for i := range l.Nodes {
			a.Nodes[i].Exits = spare(l.Nodes[i].Exits, 8)
			b.Slots[i], b.Bins[i] = spare(p.Slots[i], 8), spare(p.Bins[i], 8)
		}
		return a, b, spare(commands, 8), spare(faults, fault)
	}
	flat := func(l api.Layout, p api.Plant, commands []int, faults []api.Fault) []int {
		all := slices.Clone(extended(commands))
		for _, f := range extended(faults) {
			all = append(all, f.Kind, f.Node, f.Window)
		}
		for _, n := range extended(l.Nodes) {
			all = append(append(all, n.Kind, n.Length, n.Zone, len(n.Name)), extended(n.Exits)...)
		}
		for _, s := range append(slices.Clone(extended(p.Slots)), extended(p.Bins)...) {
			all = append(append(all, len(s)), extended(s)...)
		}
		return all
	}
	l2, p2, commands2, faults2 := build()
	want := flat(build())
	return l2, p2, commands2, faults2, func() bool { return slices.Equal(flat(l2, p2, commands2, faults2), want) }
}

func TestArgumentsAreKept(t *testing.T) { // rule 2
	l, p, commands, faults, kept := spareArguments(t)
	Entrances(l, p)
	Flows(l, p, commands, faults)
	Flows(l, p, commands, nil)
	Flows(l, p, commands[1:], faults)
	Flows(l, p, commands, append(slices.Clone(faults), faults...))
	if !kept() {
		t.Error(l, p, commands, faults)
	}
}

func TestResultsShareNoMemory(t *testing.T) { // rule 2
	l, p, commands, faults, kept := spareArguments(t)
	open := Entrances(l, p)
	flow, _ := Flows(l, p, commands, faults)
	wantOpen, wantFlow := slices.Clone(open), api.Flow{Leave: slices.Clone(flow.Leave), Enter: slices.Clone(flow.Enter)}
	changed, _ := Flows(l, p, commands, faults)
	for i := range extended(changed.Leave) {
		extended(changed.Leave)[i] = -7
	}
	if !slices.Equal(changed.Enter, wantFlow.Enter) {
		t.Error(changed, wantFlow)
	}
	for i := range extended(changed.Enter) {
		extended(changed.Enter)[i] = -8
	}
	other := Entrances(l, p)
	for i := range extended(other) {
		extended(other)[i] = !extended(other)[i]
	}
	again, _ := Flows(l, p, commands, faults)
	if !sameFlow(flow, wantFlow) || !sameFlow(again, wantFlow) || !slices.Equal(open, wantOpen) || !slices.Equal(Entrances(l, p), wantOpen) || !kept() {
		t.Error(flow, again, wantFlow, open, wantOpen, l, p, commands, faults)
	}
}
