package custody

import (
	"math"
	"slices"
	"strings"
	"testing"

	"baggage/api"
	"baggage/layout"
	"baggage/plant"
)

// parse returns the layout of some lines.
func parse(t *testing.T, lines ...string) api.Layout {
	t.Helper()
	l, line, e := layout.Parse(strings.Join(lines, "\n") + "\n")
	if e != api.OK {
		t.Fatal(lines, line, e)
	}
	return l
}

// The indices of some nodes of plan.
const (
	nE, nG, nM     = 0, 4, 5
	nV, nP, nB, nC = 6, 7, 8, 9
)

// plan returns a layout with nodes of all kinds, in each zone that they can have.
func plan(t *testing.T) api.Layout {
	t.Helper()
	return parse(t,
		"entry E 2 0 > S",
		"screen S 3 0 > D",
		"diverter D 2 0 > M L",
		"loop L 3 0 > L G",
		"gate G 2 0 > M V",
		"manual M 0",
		"diverter V 1 1 > P B",
		"store P 1 > B",
		"belt B 2 1 > C",
		"chute C 1",
		"manual N 1",
		"belt A 1 0 > M",
		"loop K 2 1 > K N",
	)
}

// plans returns layouts in which bags come into zone 1 in different ways.
func plans(t *testing.T) []api.Layout {
	t.Helper()
	return []api.Layout{
		plan(t),
		parse(t, "entry E 1 0 > G", "gate G 1 0 > M C", "chute C 1", "manual M 0"),
		parse(t, "entry E 1 0 > G", "entry F 1 0 > H", "gate G 2 0 > H K", "gate H 1 0 > M B", "manual M 0", "loop K 3 1 > K V", "belt B 1 1 > V", "diverter V 2 1 > P N", "store P 1 > C", "chute C 1", "manual N 1"),
		parse(t, "entry E 1 0 > S", "screen S 1 0 > L", "loop L 4 0 > L G", "gate G 1 0 > H C", "gate H 1 0 > I D", "gate I 1 0 > M P", "manual M 0", "store P 1 > C", "chute C 1", "chute D 1"),
	}
}

// put returns a plant with bags in the windows of a node, from the last one backward, or in its bin, and none elsewhere.
func put(t *testing.T, l api.Layout, node int, bags ...int) api.Plant {
	t.Helper()
	p, e := plant.New(l)
	if e != api.OK {
		t.Fatal(l, e)
	}
	length := l.Nodes[node].Length
	if length == 0 {
		p.Bins[node] = bags
		return p
	}
	for k, bag := range bags {
		p.Slots[node][length-1-k] = bag
	}
	return p
}

// expectBreaches checks the breaches of a plant.
func expectBreaches(t *testing.T, l api.Layout, p api.Plant, cleared []int, want ...int) {
	t.Helper()
	if got := Breaches(l, p, cleared); !slices.Equal(got, want) {
		t.Errorf("%v with %v: %v, not %v", p, cleared, got, want)
	}
}

// in returns bags if they are in zone 1.
func in(zone int, bags ...int) []int {
	if zone == 1 {
		return bags
	}
	return nil
}

func TestBreachesOfEachPlace(t *testing.T) { // P16.3
	l := plan(t)
	for node, n := range l.Nodes {
		p, e := plant.New(l)
		if e != api.OK {
			t.Fatal(e)
		}
		expectBreaches(t, l, p, nil)
		for window := range n.Length {
			for bag := 1; bag <= api.MaxBags; bag++ {
				p.Slots[node][window] = bag
				expectBreaches(t, l, p, nil, in(n.Zone, bag)...)
				expectBreaches(t, l, p, []int{0, bag - 1, bag + 1, 999}, in(n.Zone, bag)...)
				expectBreaches(t, l, p, []int{bag})
				expectBreaches(t, l, p, []int{7, bag, 7, bag, 0})
			}
			p.Slots[node][window] = 0
		}
	}
	for _, x := range []struct{ node, zone int }{{nM, 0}, {nP, 1}, {nC, 1}} {
		for bag := 1; bag < api.MaxBags; bag++ {
			p := put(t, l, x.node, bag, bag+1)
			expectBreaches(t, l, p, nil, in(x.zone, bag, bag+1)...)
			expectBreaches(t, l, p, []int{bag}, in(x.zone, bag+1)...)
			expectBreaches(t, l, p, []int{bag + 1}, in(x.zone, bag)...)
			expectBreaches(t, l, p, []int{bag + 1, bag})
		}
	}
}

// spread returns a plant with bags in zone 0 (1 to 8) and in zone 1 (11 to 18), of which later nodes have lower ones.
func spread(t *testing.T, l api.Layout) api.Plant {
	t.Helper()
	p := put(t, l, nV, 18)
	p.Slots[nE], p.Slots[nG] = []int{1, 2}, []int{0, 3}
	p.Bins[nM] = []int{4, 5, 6, 7, 8}
	p.Bins[nP] = []int{12, 17}
	p.Slots[nB] = []int{15, 16}
	p.Bins[nC] = []int{11, 13, 14}
	return p
}

func TestBreachesAreAscending(t *testing.T) { // P16.3
	l := plan(t)
	p := spread(t, l)
	expectBreaches(t, l, p, nil, 11, 12, 13, 14, 15, 16, 17, 18)
	expectBreaches(t, l, p, []int{1, 2, 3, 40, 12, 0, -1}, 11, 13, 14, 15, 16, 17, 18)
	expectBreaches(t, l, p, []int{18, 11, 18, 14, 11, 14}, 12, 13, 15, 16, 17)
	expectBreaches(t, l, p, []int{math.MinInt, 256 + 11, 1<<32 + 11, math.MaxInt}, 11, 12, 13, 14, 15, 16, 17, 18)
	expectBreaches(t, l, p, []int{11, 12, 13, 14, 15, 16, 17, 18})
}

func TestBreachesForEachSet(t *testing.T) { // P16.3: all sets of cleared bags
	l := plan(t)
	p := spread(t, l)
	for set := range 1 << 8 {
		var cleared, want []int
		for k := range 8 {
			if set>>k&1 == 1 {
				cleared = append([]int{11 + k}, cleared...)
			} else {
				want = append(want, 11+k)
			}
		}
		expectBreaches(t, l, p, cleared, want...)
		expectBreaches(t, l, p, append(cleared, 1, 3, 5, 8), want...) // bags of zone 0 do not matter
	}
}

func TestBreachesOfAllBags(t *testing.T) { // P16.3
	l := plan(t)
	for n := range api.MaxBags + 1 {
		var bags []int
		for bag := 1; bag <= n; bag++ {
			bags = append(bags, bag)
		}
		expectBreaches(t, l, put(t, l, nC, bags...), nil, bags...)
		expectBreaches(t, l, put(t, l, nC, bags...), bags)
		expectBreaches(t, l, put(t, l, nM, bags...), nil)
	}
}

func TestBreachesFollowTheZones(t *testing.T) { // P16.3: not the kinds of nodes
	l := plan(t)
	for node, n := range l.Nodes {
		if n.Kind != api.NodeBelt && n.Kind != api.NodeDiverter && n.Kind != api.NodeLoop && n.Kind != api.NodeManual {
			continue
		}
		for zone := range 2 { // a layout that is not valid, but each of these kinds can be in each zone
			other := api.Layout{Nodes: slices.Clone(l.Nodes)}
			other.Nodes[node].Zone = zone
			expectBreaches(t, other, put(t, l, node, 5), []int{4}, in(zone, 5)...)
		}
	}
}
