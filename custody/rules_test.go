package custody

import (
	"math"
	"slices"
	"testing"

	"baggage/api"
)

// spare returns a list whose spare capacity is not empty.
func spare[T any](l []T, extra T) []T {
	return append(slices.Clone(l), extra, extra, extra)[:len(l)]
}

// sameLists reports whether two lists are equal, also in their spare capacity.
func sameLists[T comparable](a, b []T) bool {
	return len(a) == len(b) && slices.Equal(a[:cap(a)], b[:cap(b)])
}

// spoil overwrites all elements of a list, also those in its spare capacity.
func spoil[T any](l []T, x T) {
	for i := range l[:cap(l)] {
		l[:cap(l)][i] = x
	}
}

// full returns a custody with spare capacity.
func full(t *testing.T) api.Custody {
	t.Helper()
	c := sealed(t, api.Seal{Bag: 3, Image: 8}, api.Seal{Bag: 5, Image: 2}, api.Seal{Bag: 9, Image: 4})
	return api.Custody{L: spare(c.L, api.Seal{Bag: 10, Image: 1})}
}

// calls are ways to get a custody from another one, with and without errors.
func calls() []func(api.Custody) api.Custody {
	var all []func(api.Custody) api.Custody
	for bag := range 12 { // before, between and behind the seals, and where there is one
		all = append(all,
			func(c api.Custody) api.Custody { x, _ := Clear(c, bag, 6); return x },
			func(c api.Custody) api.Custody { x, _ := Clear(c, bag, 0); return x },
			func(c api.Custody) api.Custody { x, _ := Revoke(c, bag); return x },
		)
	}
	return all
}

func TestArgumentsAreKept(t *testing.T) { // rule 2
	c := full(t)
	for i, call := range calls() {
		x := call(c)
		if !sameLists(c.L, full(t).L) {
			t.Fatal(i, c)
		}
		spoil(x.L, api.Seal{Bag: 77}) // and what is done to the result does not matter
		if !sameLists(c.L, full(t).L) {
			t.Fatal("memory of the argument:", i, c)
		}
	}
	spoil(Cleared(c), 77)
	if !sameLists(c.L, full(t).L) {
		t.Error(c)
	}
}

func TestNothingIsRetained(t *testing.T) { // rule 2: what is done to an argument later does not matter
	for i, call := range calls() {
		c := full(t)
		first, second := call(c), call(c)
		want := slices.Clone(first.L)
		if !slices.Equal(second.L, want) {
			t.Fatal(i, first, second)
		}
		spoil(c.L, api.Seal{Bag: 77})
		if !slices.Equal(first.L, want) {
			t.Fatal("memory of the argument:", i, first)
		}
		spoil(first.L, api.Seal{Bag: 78})
		if !slices.Equal(second.L, want) {
			t.Fatal("memory of another result:", i, second)
		}
	}
	c := full(t)
	bags := Cleared(c)
	spoil(Cleared(c), 78)
	spoil(c.L, api.Seal{Bag: 77})
	if !slices.Equal(bags, []int{3, 5, 9}) {
		t.Error(bags)
	}
}

func TestVotesAreKept(t *testing.T) { // rule 2
	screen, ledger := spare([]int{9, 3, 9, 1}, 3), spare([]int{4, 3}, 5)
	wantScreen, wantLedger := spare([]int{9, 3, 9, 1}, 3), spare([]int{4, 3}, 5)
	for bag := -1; bag < 12; bag++ {
		Open(api.Votes{Tracker: bag, Scanner: bag, Screen: screen, Ledger: ledger})
		Open(api.Votes{Tracker: bag, Scanner: 3, Screen: screen, Ledger: ledger})
	}
	if !sameLists(screen, wantScreen) || !sameLists(ledger, wantLedger) {
		t.Error(screen, ledger)
	}
	beyond := append([]int{1, 2}, 3)[:2] // what is in the spare capacity does not count
	vote{api.Votes{Tracker: 3, Scanner: 3, Screen: beyond, Ledger: []int{3}}, 0}.check(t)
	vote{api.Votes{Tracker: 3, Scanner: 3, Screen: []int{3}, Ledger: beyond}, 0}.check(t)
}

// whole returns a layout and a plant with spare capacity everywhere.
func whole(t *testing.T) (api.Layout, api.Plant) {
	t.Helper()
	l := plan(t)
	p := spread(t, l)
	for i := range l.Nodes {
		l.Nodes[i].Exits = spare(l.Nodes[i].Exits, nC)
		p.Slots[i], p.Bins[i] = spare(p.Slots[i], 30), spare(p.Bins[i], 31)
	}
	l.Nodes = spare(l.Nodes, api.Node{Name: "X", Kind: api.NodeBelt, Length: 2, Zone: 1})
	p.Slots, p.Bins = spare(p.Slots, []int{32, 33}), spare(p.Bins, []int{34})
	return l, p
}

// flat returns all numbers of a plant, with those in the spare capacity of its lists.
func flat(p api.Plant) []int {
	var all []int
	for _, rows := range [][][]int{p.Slots, p.Bins} {
		all = append(all, len(rows))
		for _, row := range rows[:cap(rows)] {
			all = append(append(all, len(row)), row[:cap(row)]...)
		}
	}
	return all
}

func TestPlantsAreKept(t *testing.T) { // rule 2
	l, p := whole(t)
	wantL, wantP := whole(t)
	cleared, wantCleared := spare([]int{15, 1, 11, 15}, 12), spare([]int{15, 1, 11, 15}, 12)
	first := Breaches(l, p, cleared)
	second := Breaches(l, p, cleared)
	if want := []int{12, 13, 14, 16, 17, 18}; !slices.Equal(first, want) || !slices.Equal(second, want) {
		t.Error(first, second)
	}
	spoil(first, 77)
	if !slices.Equal(second, []int{12, 13, 14, 16, 17, 18}) || !slices.Equal(flat(p), flat(wantP)) || !sameLists(cleared, wantCleared) {
		t.Error(second, p, cleared)
	}
	for i, n := range l.Nodes[:cap(l.Nodes)] {
		m := wantL.Nodes[:cap(wantL.Nodes)][i]
		if n.Name != m.Name || n.Kind != m.Kind || n.Length != m.Length || n.Zone != m.Zone || !sameLists(n.Exits, m.Exits) {
			t.Error(n, m)
		}
	}
	for _, rows := range [][][]int{p.Slots, p.Bins} {
		for _, row := range rows {
			spoil(row, 78)
		}
	}
	spoil(cleared, 78)
	if !slices.Equal(second, []int{12, 13, 14, 16, 17, 18}) {
		t.Error(second)
	}
	one := put(t, plan(t), nC, 6) // what remains of a single node is not its own list
	list := Breaches(plan(t), one, nil)
	spoil(list, 77)
	if !slices.Equal(one.Bins[nC], []int{6}) {
		t.Error(one)
	}
}

func TestEmptyLists(t *testing.T) { // rule 2: nil and empty lists
	for _, l := range [][]api.Seal{nil, {}, make([]api.Seal, 0, 5)} {
		c := api.Custody{L: l}
		x := allow(t, c, 4, 9)
		expect(t, x, api.Seal{Bag: 4, Image: 9})
		expect(t, c)
		refuseRevoke(t, c, 4)
		spoil(x.L, api.Seal{Bag: 77})
		if slices.ContainsFunc(l[:cap(l)], func(s api.Seal) bool { return s != api.Seal{} }) {
			t.Error(l[:cap(l)])
		}
	}
	l := plan(t)
	for _, none := range [][]int{nil, {}, make([]int, 0, 5)} {
		vote{api.Votes{Tracker: 3, Scanner: 3, Screen: none, Ledger: []int{3}}, 0}.check(t)
		vote{api.Votes{Tracker: 3, Scanner: 3, Screen: []int{3}, Ledger: none}, 0}.check(t)
		vote{api.Votes{Screen: none, Ledger: none}, 0}.check(t)
		p := put(t, l, nC, 3, 4)
		p.Slots[nP], p.Bins[nP], p.Bins[nB] = none, none, none
		expectBreaches(t, l, p, none, 3, 4)
	}
}

// odd returns a number that is at the end of a range, or beyond it.
func (r *random) odd() int {
	l := []int{math.MinInt, math.MinInt + 1, -2, -1, 0, 0, 1, 1, 2, 2, 3, 3, 39, 40, 41, 256, api.MaxImage, api.MaxImage + 1, 1 << 40, math.MaxInt - 1, math.MaxInt}
	return l[r.below(len(l))]
}

// odds returns up to n such numbers.
func (r *random) odds(n int) []int {
	l := make([]int, r.below(n+1))
	for i := range l {
		l[i] = r.odd()
	}
	return l
}

// rows returns up to n lists of such numbers.
func (r *random) rows(n int) [][]int {
	l := make([][]int, r.below(n+1))
	for i := range l {
		l[i] = r.odds(4)
	}
	return l
}

func TestAnyCustody(t *testing.T) { // rule 1, rule 5: custodies that this package does not make
	r := random(4)
	for range 20000 {
		var c api.Custody
		for range r.below(7) {
			c.L = append(c.L, api.Seal{Bag: r.odd(), Image: r.odd()})
		}
		bag, image := r.odd(), r.odd()
		before := slices.Clone(c.L)
		x, ex := Clear(c, bag, image)
		y, ey := Clear(c, bag, image)
		if ex != ey || !slices.Equal(x.L, y.L) || ex != api.OK && len(x.L) > 0 || ex == api.OK && len(x.L) != len(c.L)+1 {
			t.Fatal(c, bag, image, x, ex, y, ey)
		}
		if bad := bag < 1 || bag > api.MaxBags || image < 1 || image > api.MaxImage; bad != (ex == api.ErrRange) {
			t.Fatal(c, bag, image, ex)
		}
		x, ex = Revoke(c, bag)
		y, ey = Revoke(c, bag)
		if ex != ey || !slices.Equal(x.L, y.L) || ex != api.OK && len(x.L) > 0 || ex == api.OK && len(x.L) != len(c.L)-1 {
			t.Fatal(c, bag, x, ex, y, ey)
		}
		if len(Cleared(c)) != len(c.L) || !slices.Equal(c.L, before) {
			t.Fatal(c, before)
		}
	}
}

func TestAnyVotes(t *testing.T) { // P16.2, rule 1, rule 6
	r, opened := random(5), 0
	for range 50000 {
		v := api.Votes{Tracker: r.odd(), Scanner: r.odd(), Screen: r.odds(9), Ledger: r.odds(9)}
		if r.below(2) == 0 {
			v.Scanner = v.Tracker
		}
		x := vote{v: v}
		if v.Tracker == v.Scanner && v.Tracker > 0 && v.Tracker < 41 && has(v.Screen, v.Tracker) && has(v.Ledger, v.Tracker) {
			x.bag = v.Tracker
			opened++
		}
		x.check(t)
	}
	if opened < 500 {
		t.Error("seldom:", opened)
	}
}

func TestAnyPlants(t *testing.T) { // rule 1, rule 5: plants and layouts of another form
	r := random(6)
	for k := range 20000 {
		l := plan(t)
		switch r.below(4) {
		case 0:
			l.Nodes = l.Nodes[:r.below(len(l.Nodes))]
		case 1:
			l.Nodes = append(l.Nodes, l.Nodes...)
		case 2:
			n := &l.Nodes[r.below(len(l.Nodes))]
			n.Kind, n.Length, n.Zone, n.Exits = r.odd(), r.odd(), r.odd(), r.odds(4)
		}
		p := api.Plant{Slots: r.rows(16), Bins: r.rows(16)}
		if k%2 == 0 {
			p = r.plant(plan(t), 5)
		}
		cleared := r.odds(9)
		first := Breaches(l, p, cleared)
		if second := Breaches(l, p, cleared); !slices.Equal(first, second) || !slices.IsSorted(first) {
			t.Fatal(l, p, cleared, first, second)
		}
		for _, bag := range first {
			if slices.Contains(cleared, bag) {
				t.Fatal(l, p, cleared, first)
			}
		}
	}
	if got := Breaches(api.Layout{}, api.Plant{}, nil); len(got) != 0 {
		t.Error(got)
	}
	if got := Breaches(plan(t), api.Plant{}, nil); len(got) != 0 {
		t.Error(got)
	}
	if got := Breaches(api.Layout{}, spread(t, plan(t)), nil); len(got) != 0 {
		t.Error(got)
	}
}

func TestLargeArguments(t *testing.T) { // rule 1, rule 6
	long := make([]int, 1000000)
	for i := range long {
		long[i] = i % 30
	}
	vote{api.Votes{Tracker: 29, Scanner: 29, Screen: long, Ledger: long}, 29}.check(t)
	vote{api.Votes{Tracker: 30, Scanner: 30, Screen: long, Ledger: append(long, 30)}, 0}.check(t)
	vote{api.Votes{Tracker: 30, Scanner: 30, Screen: append(long, 30), Ledger: append(long, 30)}, 30}.check(t)
	l := plan(t)
	expectBreaches(t, l, put(t, l, nC, 3, 29, 30, 40), long, 30, 40)
	var c api.Custody
	for i := range 100000 {
		c.L = append(c.L, api.Seal{Bag: i + 41, Image: i})
	}
	if x := allow(t, c, 40, 1); len(x.L) != len(c.L)+1 || x.L[0] != (api.Seal{Bag: 40, Image: 1}) || len(Cleared(x)) != len(x.L) {
		t.Error(len(x.L))
	}
	if x := revoke(t, c, 50000); len(x.L) != len(c.L)-1 {
		t.Error(len(x.L))
	}
}
