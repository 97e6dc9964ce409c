package control

import (
	"math"
	"slices"
	"testing"

	"baggage/api"
	"baggage/plant"
)

// spare returns a list whose spare capacity is not empty.
func spare[T any](l []T, extra T) []T {
	return append(slices.Clone(l), extra, extra, extra)[:len(l)]
}

// full returns arguments with spare capacity everywhere.
func full(t *testing.T) (api.Layout, api.Belief, given) {
	t.Helper()
	l := plan(t)
	for i := range l.Nodes {
		l.Nodes[i].Exits = spare(l.Nodes[i].Exits, nC)
	}
	l.Nodes = spare(l.Nodes, api.Node{Name: "X", Kind: api.NodeScreen})
	l.Devices = spare([]api.Device{{Kind: api.DevPhotocell, Node: nG}}, api.Device{Kind: 2})
	b := belief(put(t, l, nG, 1, 2), put(t, l, nG, 2, 1), put(t, l, nS, 3), put(t, l, nD, 4), put(t, l, nM, 5))
	for _, h := range b.L {
		for _, rows := range [][][]int{h.Plant.Slots, h.Plant.Bins} {
			for i := range rows {
				rows[i] = spare(rows[i], 7)
			}
		}
	}
	b.L = spare(b.L, api.Hypothesis{Used: 1, Plant: put(t, l, nS, 9)})
	return l, b, given{
		targets: spare([]int{nC, nP, nM, nC}, nN),
		cleared: spare([]bool{true, true}, true), resolved: spare([]bool{true, false}, true), broken: spare([]bool{false, false, false, false, true}, true),
	}
}

// flat returns all numbers of a belief, with those in the spare capacity of its lists.
func flat(b api.Belief) []int {
	all := []int{b.Budget, len(b.L)}
	for _, h := range b.L[:cap(b.L)] {
		all = append(all, h.Used)
		for _, rows := range [][][]int{h.Plant.Slots, h.Plant.Bins} {
			for _, row := range rows {
				all = append(append(all, len(row)), row[:cap(row)]...)
			}
		}
	}
	return all
}

// sameLists reports whether two lists are equal, also in their spare capacity.
func sameLists[T comparable](a, b []T) bool {
	return len(a) == len(b) && slices.Equal(a[:cap(a)], b[:cap(b)])
}

func TestArgumentsAreKept(t *testing.T) { // rule 2
	l, b, g := full(t)
	wantL, wantB, wantG := full(t)
	for _, broken := range [][]bool{g.broken, nil} {
		commands := Decide(l, b, g.targets, g.cleared, g.resolved, broken)
		for i := range commands[:cap(commands)] { // and what is done to the result does not matter
			commands[:cap(commands)][i] = 77
		}
	}
	if !slices.Equal(flat(b), flat(wantB)) || !sameLists(g.targets, wantG.targets) || !sameLists(g.cleared, wantG.cleared) || !sameLists(g.resolved, wantG.resolved) || !sameLists(g.broken, wantG.broken) {
		t.Error(b, g)
	}
	for i, n := range l.Nodes[:cap(l.Nodes)] {
		if m := wantL.Nodes[:cap(wantL.Nodes)][i]; n.Name != m.Name || n.Kind != m.Kind || n.Length != m.Length || n.Zone != m.Zone || !sameLists(n.Exits, m.Exits) {
			t.Error(n, m)
		}
	}
	if !sameLists(l.Devices, wantL.Devices) {
		t.Error(l.Devices)
	}
}

func TestResultsShareNoMemory(t *testing.T) { // rule 2, rule 5
	l, b, g := full(t)
	want := []int{0, -1, 1, 0, 0, 0, 0, 0, 0, 0, 0}
	g.broken = nil
	want[nG] = 1
	first := g.decide(l, b)
	if !slices.Equal(first, want) {
		t.Error(first)
	}
	for i := range first[:cap(first)] {
		first[:cap(first)][i] = 77
	}
	second := g.decide(l, b)
	if !slices.Equal(second, want) {
		t.Error(second)
	}
	for i := range first[:cap(first)] {
		first[:cap(first)][i] = 78
	}
	if !slices.Equal(second, want) {
		t.Error(second)
	}
}

// spoil changes arguments so that they do not have their form.
func (r *random) spoil(l *api.Layout, b *api.Belief, g *given) {
	odd := []int{math.MinInt, math.MinInt + 1, -2, -1, 0, 1, 2, 3, 5, 9, 39, 40, 41, 256, 300, 1 << 40, math.MaxInt - 1, math.MaxInt}
	pick := func() int { return odd[r.below(len(odd))] }
	row := func() []int { return []int{pick(), pick(), pick()}[:r.below(4)] }
	h, i := &b.L[r.below(len(b.L))], r.below(len(l.Nodes))
	switch r.below(13) {
	case 0:
		l.Nodes[i].Kind = pick()
	case 1:
		l.Nodes[i].Length = pick()
	case 2:
		l.Nodes[i].Exits = row()
	case 3:
		l.Nodes = l.Nodes[:1+i]
	case 4:
		l.Nodes = append(l.Nodes, l.Nodes...)
	case 5:
		l.Devices = append(l.Devices, api.Device{Kind: pick(), Node: pick(), Window: pick()})
	case 6:
		h.Plant.Slots = h.Plant.Slots[:r.below(len(h.Plant.Slots)+1)]
	case 7:
		h.Plant.Bins = h.Plant.Bins[:r.below(len(h.Plant.Bins)+1)]
	case 8:
		h.Plant.Slots, h.Plant.Bins = append(h.Plant.Slots, row()), append(h.Plant.Bins, row())
	case 9:
		if i < len(h.Plant.Slots) {
			h.Plant.Slots[i] = row()
		}
	case 10:
		h.Used, b.Budget = pick(), pick()
	case 11:
		g.targets = row()
	case 12:
		g.cleared, g.resolved, g.broken = make([]bool, r.below(3)), nil, slices.Repeat([]bool{true}, r.below(1000))
	}
}

func TestAnyArguments(t *testing.T) { // rule 1; P14.1: one command for each node
	r := random(5)
	for range 3000 {
		for _, l := range plans(t) {
			l = r.shuffled(l)
			b, g := belief(r.plant(t, l, 5), r.plant(t, l, 5)), r.given(l, 20)
			for range 1 + r.below(4) {
				r.spoil(&l, &b, &g)
			}
			commands := g.decide(l, b)
			if len(commands) != len(l.Nodes) {
				t.Fatal(l, b, g, commands)
			}
			for i, c := range commands {
				if c < -1 || c > 1 {
					t.Fatal(l, b, g, i, c)
				}
			}
		}
	}
	if got := Decide(api.Layout{}, api.Belief{}, nil, nil, nil, nil); len(got) != 0 {
		t.Error(got)
	}
}

func TestOddBags(t *testing.T) { // rule 1: numbers for which no list can have an element
	l := plan(t)
	for _, bag := range []int{math.MinInt, math.MinInt + 1, -1, api.MaxBags + 1, 1 << 32, math.MaxInt} {
		g := given{targets: toward(nC), cleared: everybody(), resolved: everybody()}
		for _, node := range []int{nD, nL, nG, nV} {
			g.expect(t, l, either(t, l, node, bag), node, 0)
			g.expect(t, l, either(t, l, node, bag, 1), node, 0)
		}
		g.expect(t, l, either(t, l, nS, bag), nS, -1)
	}
}

func TestLargeArguments(t *testing.T) { // rule 1
	l := plan(t)
	wide := api.Layout{Nodes: make([]api.Node, 100000)}
	for i := range wide.Nodes {
		wide.Nodes[i].Kind = i % 11
	}
	g := given{targets: make([]int, 1000000), cleared: make([]bool, 1000000), resolved: make([]bool, 1000000), broken: make([]bool, 1000000)}
	p, _ := plant.New(l)
	if got := g.decide(wide, belief(p)); len(got) != len(wide.Nodes) {
		t.Error(len(got))
	}
	b := api.Belief{}
	for i := range 20000 {
		b.L = append(b.L, api.Hypothesis{Plant: api.Plant{Slots: [][]int{{i}, {i}, {i}, {i}, {i}}}})
	}
	if got := g.decide(l, b); !slices.Equal(got, []int{0, -1, 0, 0, 0, 0, 0, 0, 0, 0, 0}) {
		t.Error(got)
	}
}
