package control

import (
	"math"
	"slices"
	"strings"
	"testing"

	"baggage/api"
	"baggage/infer"
	"baggage/layout"
	"baggage/plant"
)

// parse returns the layout of some lines.
func parse(t *testing.T, lines ...string) api.Layout {
	t.Helper()
	l, line, e := layout.Parse(strings.Join(lines, "\n") + "\n")
	if e != api.OK {
		t.Fatal(lines, line, e)
	}
	return l
}

// The indices of the nodes of plan.
const (
	nE, nS, nD, nL, nG, nM = 0, 1, 2, 3, 4, 5
	nV, nP, nB, nC, nN     = 6, 7, 8, 9, 10
)

// plan returns a layout with nodes of all kinds.
func plan(t *testing.T) api.Layout {
	t.Helper()
	return parse(t,
		"entry E 2 0 > S",
		"screen S 3 0 > D",
		"diverter D 2 0 > M L",
		"loop L 3 0 > L G",
		"gate G 2 0 > M V",
		"manual M 0",
		"diverter V 1 1 > P B",
		"store P 1 > B",
		"belt B 2 1 > C",
		"chute C 1",
		"manual N 0",
	)
}

// given is what Decide gets beside a layout and a belief.
type given struct {
	targets                   []int
	cleared, resolved, broken []bool
}

func (g given) decide(l api.Layout, b api.Belief) []int {
	return Decide(l, b, g.targets, g.cleared, g.resolved, g.broken)
}

// set returns a list that is true for some bags.
func set(bags ...int) []bool {
	list := make([]bool, api.MaxBags)
	for _, bag := range bags {
		list[bag-1] = true
	}
	return list
}

// nodes returns a list that is true for some nodes.
func nodes(indices ...int) []bool {
	list := make([]bool, api.MaxNodes)
	for _, i := range indices {
		list[i] = true
	}
	return list
}

// everybody returns a list that is true for all bags.
func everybody() []bool {
	return slices.Repeat([]bool{true}, api.MaxBags)
}

// toward returns targets by which all bags go to the same node.
func toward(node int) []int {
	return slices.Repeat([]int{node}, api.MaxBags)
}

// put returns a plant with bags in the windows of a node, from the last one backward, and none elsewhere.
func put(t *testing.T, l api.Layout, node int, bags ...int) api.Plant {
	t.Helper()
	p, e := plant.New(l)
	if e != api.OK {
		t.Fatal(l, e)
	}
	if l.Nodes[node].Length == 0 {
		p.Bins[node] = bags
	}
	for k, bag := range bags[:min(len(bags), l.Nodes[node].Length)] {
		p.Slots[node][l.Nodes[node].Length-1-k] = bag
	}
	return p
}

// belief returns the belief with some plants.
func belief(plants ...api.Plant) api.Belief {
	b := api.Belief{Budget: api.MaxBudget}
	for i, p := range plants {
		b.L = append(b.L, api.Hypothesis{Used: i % (api.MaxBudget + 1), Plant: p})
	}
	return b
}

// either returns the belief that one of some bags (0: none) is in the last window of a node.
func either(t *testing.T, l api.Layout, node int, bags ...int) api.Belief {
	t.Helper()
	var plants []api.Plant
	for _, bag := range bags {
		plants = append(plants, put(t, l, node, bag))
	}
	return belief(plants...)
}

// expect checks that a node gets a command, and all others 0.
func (g given) expect(t *testing.T, l api.Layout, b api.Belief, node, want int) {
	t.Helper()
	commands := make([]int, len(l.Nodes))
	commands[node] = want
	if got := g.decide(l, b); !slices.Equal(got, commands) {
		t.Errorf("%v for %v with %v, not %v", got, b.L, g, commands)
	}
}

func TestExample(t *testing.T) { // P14.1
	l := parse(t, "entry A 2 0 > G", "gate G 1 0 > M C", "chute C 1", "manual M 0", "scanner G 0")
	g := given{targets: []int{2, 2}, cleared: []bool{true}}
	g.expect(t, l, either(t, l, 1, 1), 1, 1)
	g.expect(t, l, either(t, l, 1, 1, 2), 1, 0)
	g.expect(t, l, either(t, l, 1, 2, 1), 1, 0)
}

func TestNoCandidates(t *testing.T) { // P14.1
	l := plan(t)
	g := given{targets: toward(nC), cleared: everybody(), resolved: set()}
	b, e := infer.New(l, 2)
	if e != api.OK {
		t.Fatal(e)
	}
	g.expect(t, l, b, 0, 0)
	g.expect(t, l, api.Belief{Budget: 1}, 0, 0) // no hypotheses, and so no candidates
	g.expect(t, l, api.Belief{}, 0, 0)
	for node := range l.Nodes {
		g.expect(t, l, either(t, l, node, 0, 0, 0), node, 0)
	}
	none := given{}
	none.expect(t, l, b, 0, 0)
}

func TestWants(t *testing.T) { // P14.1: a bag that all hypotheses have in the last window
	l := plan(t)
	for _, x := range []struct{ node, target, want int }{
		{nD, nM, 0}, {nD, nP, 1}, {nD, nC, 1}, {nD, nN, 0},
		{nL, nM, 1}, {nL, nP, 1}, {nL, nC, 1}, {nL, nN, 0},
		{nG, nM, 0}, {nG, nP, 1}, {nG, nC, 1}, {nG, nN, 0},
		{nV, nM, 0}, {nV, nP, 0}, {nV, nC, 1}, {nV, nN, 0},
	} {
		g := given{targets: toward(x.target), cleared: everybody()}
		for bag := 1; bag <= api.MaxBags; bag++ {
			g.expect(t, l, either(t, l, x.node, bag), x.node, x.want)
			g.expect(t, l, either(t, l, x.node, bag, bag, bag, bag), x.node, x.want)
			only := given{targets: slices.Repeat([]int{-1}, bag), cleared: set(bag)} // what it is told about others does not matter
			only.targets[bag-1] = x.target
			only.expect(t, l, either(t, l, x.node, bag), x.node, x.want)
		}
	}
}

func TestNoTarget(t *testing.T) { // P14.1: bags for which there is no element, or one that is not the index of a bin
	l := plan(t)
	for _, node := range []int{nD, nL, nG, nV} {
		for _, target := range []int{math.MinInt, -2, -1, nE, nS, nD, nL, nG, nV, nB, len(l.Nodes), len(l.Nodes) + 1, api.MaxNodes, 1<<32 + nC, 256 + nC, math.MaxInt} {
			given{targets: toward(target), cleared: everybody()}.expect(t, l, either(t, l, node, 1), node, 0)
		}
		for bag := 1; bag <= api.MaxBags; bag++ {
			g := given{targets: toward(nC)[:bag-1], cleared: everybody()}
			g.expect(t, l, either(t, l, node, bag), node, 0)
			g.targets = nil
			g.expect(t, l, either(t, l, node, bag), node, 0)
		}
	}
	for first := range 4 { // each bin at each index
		lines := []string{"chute C 1", "chute D 1", "manual M 0", "manual N 0"}
		lines = slices.Concat(lines[first:], lines[:first], []string{"entry A 1 0 > G", "gate G 1 0 > H C", "gate H 1 0 > I D", "diverter I 1 0 > M N"})
		l := parse(t, lines...)
		for _, name := range []string{"G", "H", "I"} {
			node := layout.Find(l, name)
			given{cleared: everybody()}.expect(t, l, either(t, l, node, 1), node, 0)
			given{targets: toward(layout.Find(l, name))[:2], cleared: everybody()}.expect(t, l, either(t, l, node, 3), node, 0)
		}
	}
}

func TestSeveralCandidates(t *testing.T) { // P14.1: all of them have to want exit 1
	l := plan(t)
	for _, node := range []int{nD, nG, nV} {
		straight := map[int]int{nD: nM, nG: nM, nV: nP}[node]
		for some := range 1 << 4 { // the bags that do not want exit 1
			g := given{targets: []int{nC, nC, nC, nC}, cleared: everybody()}
			for i := range g.targets {
				if some>>i&1 == 1 {
					g.targets[i] = straight
				}
			}
			for here := range 1 << 5 { // the candidates, with 0
				var bags []int
				for bag := range 5 {
					if here>>bag&1 == 1 {
						bags = append(bags, bag)
					}
				}
				want := 0
				if here>>1 != 0 && here>>1&some == 0 {
					want = 1
				}
				g.expect(t, l, either(t, l, node, bags...), node, want)
				slices.Reverse(bags)
				g.expect(t, l, either(t, l, node, bags...), node, want)
			}
		}
	}
	g := given{targets: []int{nC, nN, nM, nE}}
	g.expect(t, l, either(t, l, nL, 1, 3), nL, 1)
	g.expect(t, l, either(t, l, nL, 1, 2), nL, 0)
	g.expect(t, l, either(t, l, nL, 3, 4), nL, 0)
	g.expect(t, l, either(t, l, nL, 3, 5), nL, 0) // there is no element for 5
}

func TestCleared(t *testing.T) { // P14.1: it matters at Gates only
	l := plan(t)
	for some := range 1 << 3 { // the bags that are cleared
		g := given{targets: toward(nC), cleared: []bool{some&1 == 1, some&2 == 2, some&4 == 4}}
		for here := 1; here < 1<<4; here++ { // the candidates; there is no element for 4
			var bags []int
			for bag := 1; bag <= 4; bag++ {
				if here>>(bag-1)&1 == 1 {
					bags = append(bags, bag)
				}
			}
			want := 0
			if here&some == here {
				want = 1
			}
			g.expect(t, l, either(t, l, nG, bags...), nG, want)
			g.expect(t, l, either(t, l, nG, append(bags, 0)...), nG, want)
			for _, node := range []int{nD, nL, nV} {
				g.expect(t, l, either(t, l, node, bags...), node, 1)
			}
		}
	}
	for bag := 1; bag <= api.MaxBags; bag++ {
		for _, x := range []struct {
			cleared []bool
			want    int
		}{{nil, 0}, {everybody()[:bag-1], 0}, {everybody()[:bag], 1}, {set(bag), 1}, {slices.Repeat([]bool{true}, 1000), 1}} {
			given{targets: toward(nC), cleared: x.cleared}.expect(t, l, either(t, l, nG, bag), nG, x.want)
		}
		others := everybody()
		others[bag-1] = false
		given{targets: toward(nC), cleared: others}.expect(t, l, either(t, l, nG, bag), nG, 0)
		given{targets: toward(nM), cleared: others}.expect(t, l, either(t, l, nG, bag), nG, 0)
		given{targets: toward(nM), cleared: everybody()}.expect(t, l, either(t, l, nG, bag), nG, 0)
	}
}

func TestScreens(t *testing.T) { // P14.1
	l := plan(t)
	for some := range 1 << 3 { // the bags that are resolved
		g := given{targets: toward(nC), resolved: []bool{some&1 == 1, some&2 == 2, some&4 == 4}}
		for here := 1; here < 1<<4; here++ { // the candidates; there is no element for 4
			var bags []int
			for bag := 1; bag <= 4; bag++ {
				if here>>(bag-1)&1 == 1 {
					bags = append(bags, bag)
				}
			}
			want := -1
			if here&some == here {
				want = 0
			}
			for _, cleared := range [][]bool{nil, everybody()} { // which does not matter here
				g.cleared = cleared
				g.expect(t, l, either(t, l, nS, bags...), nS, want)
				g.expect(t, l, either(t, l, nS, append(bags, 0)...), nS, want)
			}
		}
	}
	for bag := 1; bag <= api.MaxBags; bag++ {
		for _, x := range []struct {
			resolved []bool
			want     int
		}{{nil, -1}, {everybody()[:bag-1], -1}, {everybody()[:bag], 0}, {set(bag), 0}, {slices.Repeat([]bool{true}, 1000), 0}} {
			given{resolved: x.resolved}.expect(t, l, either(t, l, nS, bag), nS, x.want)
		}
		others := everybody()
		others[bag-1] = false
		given{resolved: others}.expect(t, l, either(t, l, nS, bag), nS, -1)
	}
}

func TestResolved(t *testing.T) { // P14.1: it matters at Screens only
	l := plan(t)
	for node := range l.Nodes {
		if node == nS {
			continue
		}
		want := 0
		if slices.Contains([]int{nD, nL, nG, nV}, node) {
			want = 1
		}
		for _, resolved := range [][]bool{nil, set(), set(2), everybody()} {
			given{targets: toward(nC), cleared: everybody(), resolved: resolved}.expect(t, l, either(t, l, node, 1, 2), node, want)
		}
	}
}

func TestOtherNodes(t *testing.T) { // P14.1
	l := plan(t)
	for _, node := range []int{nE, nB, nM, nP, nC, nN} {
		for target := range l.Nodes {
			for _, list := range [][]bool{nil, everybody()} {
				g := given{targets: toward(target), cleared: list, resolved: list}
				g.expect(t, l, belief(put(t, l, node, 1, 2)), node, 0)
				g.expect(t, l, either(t, l, node, 3), node, 0)
			}
		}
	}
}

func TestOtherWindows(t *testing.T) { // P14.1: only the last window matters
	l := plan(t)
	for _, node := range []int{nS, nD, nL, nG} {
		g := given{targets: []int{nM, nC, nN}, cleared: set(2), resolved: set(2)}
		g.expect(t, l, belief(put(t, l, node, 0, 1)), node, 0)
		g.expect(t, l, belief(put(t, l, node, 0, 2)), node, 0)
		want := 1
		if node == nS {
			want = 0
		}
		g.expect(t, l, belief(put(t, l, node, 2, 1), put(t, l, node, 2, 3)), node, want)
		g.expect(t, l, belief(put(t, l, node, 2, 1), put(t, l, node, 0, 3)), node, want)
		g.expect(t, l, belief(put(t, l, node, 2, 1), put(t, l, nB, 3)), node, want)
		want = 0
		if node == nS {
			want = -1
		}
		if node != nL {
			g.expect(t, l, belief(put(t, l, node, 1, 2), put(t, l, node, 1)), node, want)
			g.expect(t, l, belief(put(t, l, node, 2, 1), put(t, l, node, 1, 2)), node, want)
		}
	}
}

func TestEachNodeForItself(t *testing.T) { // P14.1: candidates of all nodes at once
	l := plan(t)
	p, e := plant.New(l)
	if e != api.OK {
		t.Fatal(e)
	}
	for node, bag := range map[int]int{nE: 1, nS: 2, nD: 3, nL: 4, nG: 5, nV: 6, nB: 7} {
		p.Slots[node][len(p.Slots[node])-1] = bag
	}
	p.Bins[nM], p.Bins[nP], p.Bins[nC] = []int{8}, []int{9, 10}, []int{11}
	for _, x := range []struct {
		g    given
		want []int
	}{
		{given{}, []int{0, -1, 0, 0, 0, 0, 0, 0, 0, 0, 0}},
		{given{targets: toward(nC)}, []int{0, -1, 1, 1, 0, 0, 1, 0, 0, 0, 0}},
		{given{targets: toward(nC), cleared: everybody()}, []int{0, -1, 1, 1, 1, 0, 1, 0, 0, 0, 0}},
		{given{targets: toward(nC), cleared: set(5), resolved: set(2)}, []int{0, 0, 1, 1, 1, 0, 1, 0, 0, 0, 0}},
		{given{targets: toward(nP), cleared: set(1, 2, 3, 4, 6, 7), resolved: everybody()}, []int{0, 0, 1, 1, 0, 0, 0, 0, 0, 0, 0}},
		{given{targets: toward(nM), cleared: everybody(), resolved: set(1, 3, 4, 5, 6, 7)}, []int{0, -1, 0, 1, 0, 0, 0, 0, 0, 0, 0}},
		{given{targets: []int{nM, nM, nC, nN, nC, nP, nM}, cleared: everybody(), resolved: everybody()}, []int{0, 0, 1, 0, 1, 0, 0, 0, 0, 0, 0}},
		{given{targets: []int{nC, nC, nM, nC, nM, nC}, cleared: everybody(), resolved: everybody()}, []int{0, 0, 0, 1, 0, 0, 1, 0, 0, 0, 0}},
	} {
		if got := x.g.decide(l, belief(p)); !slices.Equal(got, x.want) {
			t.Error(x.g, got, x.want)
		}
	}
}

func TestShortestWays(t *testing.T) { // P14.1: the exit of a shortest way that is not broken
	l := parse(t, "entry A 1 0 > D", "diverter D 1 0 > B C", "belt B 3 0 > M", "belt C 2 0 > L", "loop L 2 0 > L E", "diverter E 1 0 > N M", "manual M 0", "manual N 0")
	for _, x := range []struct {
		node, target int
		broken       []bool
		want         int
	}{
		{1, 6, nil, 0}, {1, 7, nil, 1}, {4, 6, nil, 1}, {4, 7, nil, 1}, {5, 6, nil, 1}, {5, 7, nil, 0},
		{1, 6, nodes(2), 1}, {1, 6, []bool{false, false, true}, 1}, {1, 6, nodes(2, 3), 0}, {1, 6, nodes(2, 7), 1},
		{1, 7, nodes(2), 1}, {1, 7, nodes(3), 0}, {1, 7, nodes(5), 0}, {1, 7, nodes(7), 0}, {1, 7, nodes(6), 1},
		{1, 6, nodes(6), 0}, {1, 6, nodes(2, 6), 0}, {1, 6, nodes(1, 2), 0}, {1, 6, nodes(0, 2), 1},
		{4, 6, nodes(4), 0}, {4, 6, nodes(5), 0}, {4, 6, nodes(3), 1}, {4, 7, nodes(7), 0},
		{5, 6, nodes(5), 0}, {5, 6, nodes(7), 1}, {5, 6, nodes(0, 1, 2, 3, 4, 7), 1}, {5, 6, slices.Repeat([]bool{true}, 1000), 0},
	} {
		given{targets: toward(x.target), broken: x.broken}.expect(t, l, either(t, l, x.node, 1), x.node, x.want)
	}
	l.Nodes[2].Length = 6 // now the way over B has a window more than the other one
	given{targets: toward(6)}.expect(t, l, either(t, l, 1, 1), 1, 1)
	given{targets: toward(6), broken: nodes(3)}.expect(t, l, either(t, l, 1, 1), 1, 0)
	l.Nodes[2].Length = 5 // equal ways: the least exit
	given{targets: toward(6)}.expect(t, l, either(t, l, 1, 1), 1, 0)
	l.Nodes[1].Exits = []int{3, 2}
	given{targets: toward(6)}.expect(t, l, either(t, l, 1, 1), 1, 0)
	l.Nodes[2].Length = 4
	given{targets: toward(6)}.expect(t, l, either(t, l, 1, 1), 1, 1)
	gates := parse(t, "entry A 1 0 > G", "gate G 1 0 > H V", "gate H 1 0 > M V", "manual M 0", "belt V 1 1 > C", "chute C 1")
	given{targets: toward(5), cleared: everybody()}.expect(t, gates, either(t, gates, 1, 1), 1, 1)
	given{targets: toward(5), cleared: everybody(), broken: nodes(4)}.expect(t, gates, either(t, gates, 1, 1), 1, 0)
	given{targets: toward(3), cleared: everybody()}.expect(t, gates, either(t, gates, 1, 1), 1, 0)
	given{targets: toward(3), cleared: everybody(), broken: nodes(2)}.expect(t, gates, either(t, gates, 1, 1), 1, 0)
	gates.Nodes[2].Exits[1], gates.Nodes[1].Length = 5, 8 // the windows of G itself do not matter
	given{targets: toward(5), cleared: everybody()}.expect(t, gates, either(t, gates, 1, 1), 1, 0)
	given{targets: toward(5), cleared: everybody(), broken: nodes(2)}.expect(t, gates, either(t, gates, 1, 1), 1, 1)
}
