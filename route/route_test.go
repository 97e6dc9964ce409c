package route

import (
	"math"
	"slices"
	"strconv"
	"strings"
	"testing"

	"baggage/api"
	"baggage/layout"
)

// parse returns the layout of some lines.
func parse(t *testing.T, lines ...string) api.Layout {
	t.Helper()
	l, line, e := layout.Parse(strings.Join(lines, "\n") + "\n")
	if e != api.OK {
		t.Fatal(lines, line, e)
	}
	return l
}

// small returns the layout of the example of chapter 7: A, G, C and M are 0 to 3.
func small(t *testing.T) api.Layout {
	t.Helper()
	return parse(t, "entry A 2 0 > G", "gate G 1 0 > M C", "chute C 1", "manual M 0", "scanner G 0")
}

// The indices of the nodes of plan.
const (
	nE, nL, nD, nS, nB, nQ, nM, nN = 0, 1, 2, 3, 4, 5, 6, 7
	nG, nV, nP, nK, nC, nO, nF     = 8, 9, 10, 11, 12, 13, 14
)

// plan returns a layout with all kinds, in which D leads to M over S or, by a way that is shorter by a window but has a node more, over B and Q, and V to C directly or over the Store P.
func plan(t *testing.T) api.Layout {
	t.Helper()
	return parse(t,
		"entry E 1 0 > L",
		"loop L 4 0 > L D",
		"diverter D 2 0 > S B",
		"screen S 7 0 > G",
		"belt B 3 0 > Q",
		"belt Q 3 0 > G",
		"manual M 0",
		"manual N 0",
		"gate G 1 0 > M V",
		"diverter V 2 1 > P K",
		"store P 1 > F",
		"loop K 8 1 > K C",
		"chute C 1",
		"chute O 1",
		"belt F 1 1 > C",
	)
}

// set returns a list of broken nodes that is as long as it has to be.
func set(nodes ...int) []bool {
	var l []bool
	for _, i := range nodes {
		l = append(l, make([]bool, max(0, i+1-len(l)))...)
		l[i] = true
	}
	return l
}

// expect checks the results of Distance and Exit.
func expect(t *testing.T, l api.Layout, broken []bool, from, target, distance, exit int) {
	t.Helper()
	if got := Distance(l, broken, from, target); got != distance {
		t.Errorf("Distance from %d to %d in %v without %v is %d, not %d", from, target, l, broken, got, distance)
	}
	if got := Exit(l, broken, from, target); got != exit {
		t.Errorf("Exit from %d to %d in %v without %v is %d, not %d", from, target, l, broken, got, exit)
	}
}

func expectReach(t *testing.T, l api.Layout, broken []bool, from int, want ...int) {
	t.Helper()
	if got := Reach(l, broken, from); !slices.Equal(got, want) {
		t.Errorf("Reach from %d in %v without %v is %v, not %v", from, l, broken, got, want)
	}
}

func TestExamples(t *testing.T) { // P8.1, P8.2, P8.3
	l := small(t)
	expect(t, l, nil, 0, 2, 3, 0)
	expect(t, l, nil, 0, 3, 3, 0)
	expect(t, l, nil, 1, 2, 1, 1)
	expect(t, l, nil, 1, 3, 1, 0)
	expectReach(t, l, nil, 0, 2, 3)
	expect(t, l, set(1), 0, 2, none, none)
	expect(t, l, set(1), 0, 3, none, none)
	expectReach(t, l, set(1), 0)
}

func TestShortestOfSeveralWays(t *testing.T) { // P8.1, P8.2
	l := plan(t)
	expect(t, l, nil, nE, nM, 1+4+2+3+3+1, 0)
	expect(t, l, nil, nL, nM, 4+2+3+3+1, 1)
	expect(t, l, nil, nD, nM, 2+3+3+1, 1)
	expect(t, l, nil, nS, nM, 7+1, 0)
	expect(t, l, nil, nG, nM, 1, 0)
	expect(t, l, nil, nG, nC, 1+2+8, 1)
	expect(t, l, nil, nV, nC, 2+8, 1)
	expect(t, l, nil, nK, nC, 8, 1)
	l.Nodes[nB].Length++ // now both ways are equal
	expect(t, l, nil, nD, nM, 2+7+1, 0)
	l.Nodes[nB].Length++ // now that over S is the shortest one
	expect(t, l, nil, nD, nM, 2+7+1, 0)
	l.Nodes[nD].Exits = []int{nB, nS}
	expect(t, l, nil, nD, nM, 2+7+1, 1)
	l.Nodes[nB].Length--
	expect(t, l, nil, nD, nM, 2+7+1, 0)
}

func TestWaysOfOneNode(t *testing.T) { // P8.1, P8.2, P8.3
	l := plan(t)
	for _, i := range []int{nM, nN, nP, nC, nO} {
		expect(t, l, nil, i, i, 0, none)
		expect(t, l, set(i), i, i, none, none)
		expectReach(t, l, set(i), i)
	}
	expectReach(t, l, nil, nM, nM)
	expectReach(t, l, nil, nO, nO)
	expectReach(t, l, nil, nP, nP, nC)
	for _, i := range []int{nE, nL, nD, nS, nG, nV, nK, nF} { // a strip is no target, not even of itself
		expect(t, l, nil, i, i, none, none)
	}
}

func TestNoWay(t *testing.T) { // P8.1, P8.2, P8.3
	l := plan(t)
	expect(t, l, nil, nE, nN, none, none) // nothing leads there
	expect(t, l, nil, nE, nO, none, none)
	expect(t, l, nil, nC, nO, none, none) // nothing leads out
	expect(t, l, nil, nM, nN, none, none)
	expect(t, l, nil, nV, nM, none, none) // not backwards
	expect(t, l, nil, nK, nP, none, none)
	expect(t, l, nil, nP, nM, none, none)
	expect(t, l, nil, nC, nP, none, none)
	for _, target := range []int{nL, nD, nS, nB, nQ, nG, nV, nK, nF} { // no bins, though exits lead there
		expect(t, l, nil, nE, target, none, none)
		expect(t, l, nil, nP, target, none, none)
	}
	expectReach(t, l, nil, nE, nM, nP, nC)
	expectReach(t, l, nil, nV, nP, nC)
	expectReach(t, l, nil, nK, nC)
}

func TestStores(t *testing.T) { // P8.1, P8.2, P8.3
	l := plan(t)
	expect(t, l, nil, nV, nP, 2, 0)
	expect(t, l, nil, nP, nC, 1, 0)
	expect(t, l, nil, nV, nC, 2+8, 1) // not through the Store, though 2+1 were less
	expect(t, l, set(nK), nV, nC, none, none)
	expect(t, l, set(nK), nE, nC, none, none)
	expectReach(t, l, set(nK), nE, nM, nP)
	expectReach(t, l, set(nK), nP, nP, nC)
	expect(t, l, set(nP), nP, nC, none, none) // a way begins with its first node
	expectReach(t, l, set(nP), nP)
	expect(t, l, set(nP), nV, nP, none, none)
	expect(t, l, set(nP), nV, nC, 2+8, 1)
	twice := parse(t, "entry E 1 0 > G", "gate G 1 0 > M D", "manual M 0", "diverter D 1 1 > T S", "store S 1 > T", "store T 1 > C", "chute C 1")
	expect(t, twice, nil, 4, 5, 0, 0) // a way without windows
	expect(t, twice, nil, 5, 6, 0, 0)
	expect(t, twice, nil, 4, 6, none, none) // not through the Store T
	expect(t, twice, nil, 3, 5, 1, 0)
	expect(t, twice, nil, 3, 6, none, none)
	expectReach(t, twice, nil, 4, 4, 5)
	expectReach(t, twice, nil, 5, 5, 6)
	expectReach(t, twice, nil, 0, 2, 4, 5)
}

func TestBroken(t *testing.T) { // P8.1, P8.2, P8.3
	l := plan(t)
	expect(t, l, set(nB), nE, nM, 1+4+2+7+1, 0)
	expect(t, l, set(nB), nD, nM, 2+7+1, 0)
	expect(t, l, set(nQ), nD, nM, 2+7+1, 0)
	expect(t, l, set(nS), nD, nM, 2+3+3+1, 1)
	for _, broken := range [][]bool{set(nE), set(nL), set(nD), set(nG), set(nM), set(nS, nQ), set(nB, nS)} {
		expect(t, l, broken, nE, nM, none, none)
	}
	expectReach(t, l, set(nE), nE)
	expectReach(t, l, set(nG), nE)
	expectReach(t, l, set(nM), nE, nP, nC)
	expectReach(t, l, set(nV), nE, nM)
	expectReach(t, l, set(nC), nE, nM, nP)
	expectReach(t, l, set(nP, nC), nE, nM)
	expect(t, l, set(nN, nO, nF), nE, nC, 1+4+2+3+3+1+2+8, 0) // they are on no way
}

func TestLengthsOfBroken(t *testing.T) { // the term broken
	l := plan(t)
	for n := range 40 {
		expect(t, l, make([]bool, n), nE, nM, 14, 0)
		expectReach(t, l, make([]bool, n), nE, nM, nP, nC)
	}
	behind := make([]bool, 1000)
	for i := len(l.Nodes); i < len(behind); i++ {
		behind[i] = true
	}
	expect(t, l, behind, nE, nM, 14, 0)
	expectReach(t, l, behind, nE, nM, nP, nC)
	for from := range l.Nodes {
		all := slices.Repeat([]bool{true}, len(l.Nodes))
		expectReach(t, l, all, from)
		expect(t, l, all, from, nM, none, none)
		expect(t, l, all, from, from, none, none)
	}
}

func TestNoNodes(t *testing.T) { // P8.1, P8.2, P8.3
	l := plan(t)
	for _, i := range []int{-1, -2, len(l.Nodes), len(l.Nodes) + 1, api.MaxNodes, math.MinInt, math.MaxInt} {
		for _, broken := range [][]bool{nil, {true}, make([]bool, 100)} {
			expect(t, l, broken, i, nM, none, none)
			expect(t, l, broken, nD, i, none, none)
			expect(t, l, broken, nM, i, none, none)
			expect(t, l, broken, i, i, none, none)
			expectReach(t, l, broken, i)
		}
	}
}

// faults returns changes that make plan invalid in each way of P7.1, none of which touches the ways from D to M.
func faults() map[string]func(*api.Layout) {
	add := func(l *api.Layout, n api.Node) { l.Nodes = append(l.Nodes, n) }
	return map[string]func(*api.Layout){
		"nodes": func(l *api.Layout) {
			for i := 0; len(l.Nodes) <= api.MaxNodes; i++ {
				add(l, api.Node{Name: "X" + strconv.Itoa(i), Kind: api.NodeManual})
			}
		},
		"devices":        func(l *api.Layout) { l.Devices = make([]api.Device, api.MaxDevices+1) },
		"name":           func(l *api.Layout) { l.Nodes[nN].Name = "n" },
		"kind":           func(l *api.Layout) { l.Nodes[nN].Kind = 10 },
		"no kind":        func(l *api.Layout) { l.Nodes[nN].Kind = 0 },
		"length":         func(l *api.Layout) { l.Nodes[nN].Length = 1 },
		"long loop":      func(l *api.Layout) { l.Nodes[nK].Length = api.MaxLength + 1 },
		"negative":       func(l *api.Layout) { l.Nodes[nF].Length = math.MinInt },
		"zone":           func(l *api.Layout) { l.Nodes[nN].Zone = 2 },
		"too many exits": func(l *api.Layout) { l.Nodes[nN].Exits = []int{nM} },
		"exit":           func(l *api.Layout) { l.Nodes[nF].Exits = []int{len(l.Nodes)} },
		"negative exit":  func(l *api.Layout) { l.Nodes[nF].Exits = []int{-1} },
		"own exit":       func(l *api.Layout) { l.Nodes[nF].Exits = []int{nF} },
		"loop":           func(l *api.Layout) { l.Nodes[nK].Exits = []int{nC, nK} },
		"equal exits":    func(l *api.Layout) { l.Nodes[nV].Exits = []int{nK, nK} },
		"windows": func(l *api.Layout) {
			for i := 0; layout.Windows(*l) > 0; i++ { // it is 0 as soon as there are too many
				add(l, api.Node{Name: "X" + strconv.Itoa(i), Kind: api.NodeBelt, Length: api.MaxLength, Exits: []int{nN}})
			}
		},
		"names": func(l *api.Layout) { l.Nodes[nN].Name = "M" },
		"exit to entry": func(l *api.Layout) {
			l.Nodes[nE].Exits = []int{len(l.Nodes)}
			add(l, l.Nodes[nE])
			l.Nodes[15].Name = "X"
		},
		"zones":        func(l *api.Layout) { l.Nodes[nF].Exits = []int{nN} },
		"zone of kind": func(l *api.Layout) { l.Nodes[nO].Zone = 0 },
		"cycle":        func(l *api.Layout) { l.Nodes[nF].Exits = []int{nV} },
		"whole cycle":  func(l *api.Layout) { l.Nodes[nK].Exits[1] = nV },
		"device":       func(l *api.Layout) { l.Devices = []api.Device{{Kind: api.DevScanner, Node: nM}} },
		"no device":    func(l *api.Layout) { l.Devices = []api.Device{{}} },
		"two devices":  func(l *api.Layout) { l.Devices = []api.Device{{Kind: 1, Node: nF}, {Kind: 1, Node: nF}} },
		"no entry":     func(l *api.Layout) { l.Nodes[nE].Kind = api.NodeBelt },
	}
}

func TestInvalidLayouts(t *testing.T) { // the term way
	for name, spoil := range faults() {
		l := plan(t)
		spoil(&l)
		if layout.Validate(l) == api.OK {
			t.Error(name)
		}
		for from := -1; from <= len(l.Nodes); from++ {
			for target := -1; target <= len(l.Nodes); target++ {
				expect(t, l, nil, from, target, none, none)
			}
			expectReach(t, l, nil, from)
		}
	}
	for _, l := range []api.Layout{{}, {Nodes: make([]api.Node, 100000)}, {Nodes: []api.Node{{Name: "M", Kind: api.NodeManual}}}} {
		expect(t, l, nil, 0, 0, none, none)
		expectReach(t, l, nil, 0)
	}
}

// random is a sequence of numbers that looks random.
type random uint32

// below returns a number from 0 to n-1.
func (r *random) below(n int) int {
	*r = *r*1664525 + 1013904223
	return int(*r>>8) % n
}

// some returns a valid layout of 2 to n nodes.
func (r *random) some(n int) api.Layout {
	l := api.Layout{Nodes: make([]api.Node, 2+r.below(n-1))}
	kinds := []int{2, 3, 4, 4, 4, 4, 5, 6, 6, 7, 8, 9} // all but Entry, with many that lead to two others
	var way []int                                      // the nodes, each of which leads only to later ones
	for i := range l.Nodes {
		way = slices.Insert(way, r.below(i+1), i)
	}
	for at := len(way) - 1; at >= 0; at-- {
		i := way[at]
		switch at {
		case 0:
			l.Nodes[i] = api.Node{Kind: api.NodeEntry}
		case len(way) - 1:
			l.Nodes[i] = api.Node{Kind: api.NodeManual}
		default:
			l.Nodes[i] = api.Node{Kind: kinds[r.below(len(kinds))], Zone: r.below(2)}
		}
		r.lead(l.Nodes, i, way[at+1:])
		l.Nodes[i].Name = "N" + strconv.Itoa(i)
	}
	return l
}

// lead gives the node i exits to some later ones, or makes it a bin if there are not enough of them.
func (r *random) lead(nodes []api.Node, i int, later []int) {
	n := &nodes[i]
	exits := map[int]int{api.NodeDiverter: 2, api.NodeLoop: 2, api.NodeGate: 2, api.NodeChute: 0, api.NodeManual: 0}
	count, ok := exits[n.Kind]
	if !ok {
		count = 1
	}
	switch n.Kind {
	case api.NodeScreen, api.NodeGate:
		n.Zone = 0
	case api.NodeStore, api.NodeChute:
		n.Zone = 1
	}
	if n.Kind < api.NodeStore {
		n.Length = 2 + r.below(2)
	}
	for x := range count {
		if n.Kind == api.NodeLoop && x == 0 {
			n.Exits = []int{i}
			continue
		}
		zone := n.Zone
		if n.Kind == api.NodeGate && x == 1 {
			zone = 1
		}
		var can []int
		for _, k := range later {
			if nodes[k].Zone == zone && !slices.Contains(n.Exits, k) {
				can = append(can, k)
			}
		}
		if len(can) == 0 {
			*n = api.Node{Kind: api.NodeManual, Zone: n.Zone}
			return
		}
		n.Exits = append(n.Exits, can[r.below(min(len(can), 3))])
	}
}

func (r *random) breaks(n int) []bool {
	broken := make([]bool, r.below(n+3))
	for i := range broken {
		broken[i] = r.below(5) == 0
	}
	return broken
}

// sequences returns begin and all sequences that go on with it, in which each node has an exit to the next one and none occurs twice.
func sequences(l api.Layout, begin []int) [][]int {
	all := [][]int{begin}
	for i := range l.Nodes {
		if slices.Contains(l.Nodes[begin[len(begin)-1]].Exits, i) && !slices.Contains(begin, i) {
			all = append(all, sequences(l, append(slices.Clone(begin), i))...)
		}
	}
	return all
}

// isWay reports whether a sequence of nodes is a way to its last one.
func isWay(l api.Layout, broken []bool, s []int) bool {
	for at, i := range s {
		isStrip := l.Nodes[i].Kind <= 6
		if i < len(broken) && broken[i] || at == len(s)-1 && isStrip || at > 0 && at < len(s)-1 && !isStrip {
			return false
		}
	}
	return true
}

// judge is a second reading of the promises: it returns Distance and Exit by target, and Reach.
func judge(l api.Layout, broken []bool, from int) ([]int, []int, []int) {
	distance, exit := slices.Repeat([]int{-1}, len(l.Nodes)), slices.Repeat([]int{-1}, len(l.Nodes))
	var reach []int
	for _, s := range sequences(l, []int{from}) {
		if !isWay(l, broken, s) {
			continue
		}
		length, target, first := 0, s[len(s)-1], -1
		for _, i := range s {
			length += l.Nodes[i].Length
		}
		if len(s) > 1 {
			first = slices.Index(l.Nodes[from].Exits, s[1])
		}
		switch {
		case distance[target] == -1 || length < distance[target]:
			distance[target], exit[target] = length, first
		case length == distance[target]:
			exit[target] = min(exit[target], first)
		}
		reach = append(reach, target)
	}
	slices.Sort(reach)
	return distance, exit, slices.Compact(reach)
}

func TestManyLayouts(t *testing.T) { // P8.1, P8.2, P8.3
	r := random(1)
	ways, ties := 0, 0
	for k := range 5000 {
		l := r.some(4 + k%10)
		if e := layout.Validate(l); e != api.OK {
			t.Fatal(l, e)
		}
		broken := r.breaks(len(l.Nodes))
		if k%3 == 0 {
			broken = nil
		}
		for from := range l.Nodes {
			distance, exit, reach := judge(l, broken, from)
			for target := range l.Nodes {
				expect(t, l, broken, from, target, distance[target], exit[target])
				if distance[target] > 0 {
					ways++
				}
				if x := l.Nodes[from].Exits; len(x) == 2 && exit[target] == 0 && distance[target] == l.Nodes[from].Length+Distance(l, broken, x[1], target) {
					ties++
				}
			}
			expectReach(t, l, broken, from, reach...)
		}
	}
	if ways < 10000 || ties < 100 {
		t.Error("seldom:", ways, ties)
	}
}

func TestExitsLeadToTarget(t *testing.T) { // the consequences
	r := random(2)
	for range 500 {
		l := r.some(api.MaxNodes)
		if layout.Windows(l) == 0 { // there were too many
			continue
		}
		broken := r.breaks(len(l.Nodes))
		for from := range l.Nodes {
			for _, target := range Reach(l, broken, from) {
				length, at := 0, from
				for range len(l.Nodes) {
					if at == target {
						break
					}
					length += l.Nodes[at].Length
					at = l.Nodes[at].Exits[Exit(l, broken, at, target)]
				}
				if want := Distance(l, broken, from, target); at != target || length != want {
					t.Errorf("from %d to %d in %v without %v: %d, %d, not %d", from, target, l, broken, at, length, want)
				}
			}
		}
	}
}

func TestRepairs(t *testing.T) { // the consequences
	r := random(3)
	for range 300 {
		l := r.some(10)
		broken := r.breaks(len(l.Nodes))
		for i := range broken {
			better := slices.Clone(broken)
			better[i] = false
			for from := range l.Nodes {
				for target := range l.Nodes {
					before, after := Distance(l, broken, from, target), Distance(l, better, from, target)
					if before >= 0 && (after < 0 || after > before) {
						t.Errorf("from %d to %d in %v without %v: %d, and after the repair of %d %d", from, target, l, broken, before, i, after)
					}
				}
			}
		}
	}
}

// ladder returns a layout of as many nodes as there can be, which each lead to the next two, so that there are tens of thousands of ways.
func ladder() api.Layout {
	var l api.Layout
	for i := range api.MaxNodes - 1 {
		l.Nodes = append(l.Nodes, api.Node{Name: "N" + strconv.Itoa(i), Kind: api.NodeDiverter, Length: 3, Exits: []int{i + 1, i + 2}})
	}
	l.Nodes[0].Kind, l.Nodes[0].Exits = api.NodeEntry, []int{1}
	l.Nodes[api.MaxNodes-2].Kind, l.Nodes[api.MaxNodes-2].Exits = api.NodeBelt, []int{api.MaxNodes - 1}
	l.Nodes = append(l.Nodes, api.Node{Name: "M", Kind: api.NodeManual})
	return l
}

func TestLargestLayout(t *testing.T) { // rule 1, P8.1, P8.2
	l, target := ladder(), api.MaxNodes-1
	for range 100 {
		for from := 1; from < target; from++ {
			steps := (target - from + 1) / 2
			exit := 1
			if (target-from)%2 == 1 { // the odd step may come first
				exit = 0
			}
			expect(t, l, nil, from, target, 3*steps, exit)
		}
		expect(t, l, nil, 0, target, 3*12, 0)
		expectReach(t, l, nil, 0, target)
	}
	expect(t, l, set(2, 4, 6), 1, target, 3*11, 1)
	expect(t, l, set(3, 6), 0, target, 3*13, 0)
	expect(t, l, set(3, 6), 1, target, 3*12, 0)
	expect(t, l, set(21, 22), 0, target, none, none)
}

func TestAnyArguments(t *testing.T) { // rule 1
	r := random(4)
	numbers := []int{math.MinInt, -1, 0, 1, 2, 5, 9, 14, 24, math.MaxInt}
	pick := func() int { return numbers[r.below(len(numbers))] }
	for range 3000 {
		l := plan(t)
		for range r.below(4) {
			n := &l.Nodes[r.below(len(l.Nodes))]
			switch r.below(6) {
			case 0:
				n.Kind = pick()
			case 1:
				n.Length = pick()
			case 2:
				n.Zone = pick()
			case 3:
				n.Exits = []int{pick(), pick(), pick()}[:r.below(4)]
			case 4:
				l.Devices = append(l.Devices, api.Device{Kind: pick(), Node: pick(), Window: pick()})
			case 5:
				l.Nodes = l.Nodes[:1+r.below(len(l.Nodes))]
			}
		}
		broken := r.breaks(20)
		from, target := pick(), pick()
		d, x, bins := Distance(l, broken, from, target), Exit(l, broken, from, target), Reach(l, broken, from)
		if reached := slices.Contains(bins, target); reached != (d >= 0) || (x >= 0) != (reached && from != target) {
			t.Error(l, broken, from, target, d, x, bins)
		}
	}
}

func TestArgumentsAreKept(t *testing.T) { // rule 2
	for name, spoil := range faults() {
		for _, change := range []func(*api.Layout){spoil, func(*api.Layout) {}} {
			l, want := plan(t), plan(t)
			change(&l)
			change(&want)
			l.Nodes = append(l.Nodes, api.Node{Name: "SPARE", Exits: []int{7}})[:len(l.Nodes)]
			broken := []bool{false, true, true, true}[:2]
			for _, from := range []int{-1, nE, nD, nM, nP} {
				Distance(l, broken, from, nM)
				Exit(l, broken, from, nM)
				Reach(l, broken, from)
			}
			spare := l.Nodes[:len(l.Nodes)+1][len(l.Nodes)]
			if !layout.Same(l, want) || spare.Name != "SPARE" || !slices.Equal(spare.Exits, []int{7}) || !slices.Equal(broken[:4], []bool{false, true, true, true}) {
				t.Error(name, l, broken[:4])
			}
		}
	}
}

func TestResultsShareNoMemory(t *testing.T) { // rule 2
	l := plan(t)
	a, b := Reach(l, nil, nE), Reach(l, nil, nE)
	for i := range a[:cap(a)] {
		a[:cap(a)][i] = -7
	}
	if want := []int{nM, nP, nC}; !slices.Equal(b, want) || !slices.Equal(Reach(l, nil, nE), want) || !layout.Same(l, plan(t)) {
		t.Error(a, b, l)
	}
}
