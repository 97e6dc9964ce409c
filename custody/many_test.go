package custody

import (
	"maps"
	"slices"
	"testing"

	"baggage/api"
	"baggage/layout"
	"baggage/plant"
)

// random is a sequence of numbers that looks random.
type random uint32

// below returns a number from 0 to n-1.
func (r *random) below(n int) int {
	*r = *r*1664525 + 1013904223
	return int(*r>>8) % n
}

// book is a second reading of custodies: the images of the bags.
type book map[int]int

// seals returns what the package should have.
func (b book) seals() []api.Seal {
	var seals []api.Seal
	for _, bag := range slices.Sorted(maps.Keys(b)) {
		seals = append(seals, api.Seal{Bag: bag, Image: b[bag]})
	}
	return seals
}

// clear makes a call with both and returns the custody and the error.
func (b book) clear(t *testing.T, c api.Custody, bag, image int) (api.Custody, api.Errno) {
	t.Helper()
	want := api.OK
	if bag < 1 || bag > 40 || image < 1 || image > 1<<20 {
		want = api.ErrRange
	} else if _, ok := b[bag]; ok {
		want = api.ErrDuplicate
	} else {
		b[bag] = image
	}
	x, e := Clear(c, bag, image)
	return b.become(t, c, x, e, want)
}

// revoke makes a call with both and returns the custody and the error.
func (b book) revoke(t *testing.T, c api.Custody, bag int) (api.Custody, api.Errno) {
	t.Helper()
	want := api.ErrMissing
	if _, ok := b[bag]; ok {
		delete(b, bag)
		want = api.OK
	}
	x, e := Revoke(c, bag)
	return b.become(t, c, x, e, want)
}

func (b book) become(t *testing.T, before, after api.Custody, e, want api.Errno) (api.Custody, api.Errno) {
	t.Helper()
	if e != want {
		t.Fatal(before, after, e, want)
	}
	if e != api.OK {
		refuse(t, after, e, want)
		after = before
	}
	expect(t, after, b.seals()...)
	return after, e
}

// all tries all sequences of so many calls with three bags.
func all(t *testing.T, c api.Custody, b book, steps int) int {
	t.Helper()
	if steps == 0 {
		return 1
	}
	count := 0
	for bag := range 5 {
		if bag == 4 {
			bag = api.MaxBags + 1
		}
		for _, image := range []int{0, steps, steps + 1} {
			next := maps.Clone(b)
			if x, e := next.clear(t, c, bag, image); e == api.OK {
				count += all(t, x, next, steps-1)
			}
		}
		next := maps.Clone(b)
		if x, e := next.revoke(t, c, bag); e == api.OK {
			count += all(t, x, next, steps-1)
		}
	}
	return count
}

func TestAllShortStories(t *testing.T) { // P16.1
	for steps := range 6 {
		if count := all(t, api.Custody{}, book{}, steps); steps == 5 && count < 2000 {
			t.Error("few:", count)
		}
	}
}

func TestManyStories(t *testing.T) { // P16.1
	r, most := random(1), 0
	for k := range 300 {
		var c api.Custody
		b := book{}
		for range 200 {
			bag := r.below(api.MaxBags + 2)
			if r.below(2+k%5) == 0 {
				c, _ = b.revoke(t, c, bag)
			} else {
				c, _ = b.clear(t, c, bag, r.below(api.MaxImage+2))
			}
			most = max(most, len(c.L))
		}
	}
	if most < 35 {
		t.Error("small:", most)
	}
}

// shuffled returns a layout with other indices for its nodes, and other lengths.
func (r *random) shuffled(l api.Layout) api.Layout {
	var at []int // the new index of each node
	for i := range l.Nodes {
		at = slices.Insert(at, r.below(i+1), i)
	}
	s := api.Layout{Nodes: make([]api.Node, len(l.Nodes))}
	for i, n := range l.Nodes {
		n.Exits = slices.Clone(n.Exits)
		for k, to := range n.Exits {
			n.Exits[k] = at[to]
		}
		switch {
		case n.Kind == api.NodeLoop:
			n.Length = 2 + r.below(3)
		case n.Length > 0:
			n.Length = 1 + r.below(4)
		}
		s.Nodes[at[i]] = n
	}
	return s
}

// plant returns a plant with some bags; of eight places, about full have one.
func (r *random) plant(l api.Layout, full int) api.Plant {
	p := api.Plant{Slots: make([][]int, len(l.Nodes)), Bins: make([][]int, len(l.Nodes))}
	bags := r.order(api.MaxBags)
	for i, n := range l.Nodes {
		p.Slots[i] = make([]int, n.Length)
		for k := range p.Slots[i] {
			if len(bags) > 0 && r.below(8) < full && (n.Kind != api.NodeLoop || k > 0) {
				p.Slots[i][k], bags = bags[0], bags[1:]
			}
		}
		if layout.IsBin(n) {
			k := min(r.below(8)*full/8, len(bags))
			p.Bins[i], bags = slices.Sorted(slices.Values(bags[:k])), bags[k:]
		}
	}
	return p
}

// order returns the numbers from 1 to n in some order.
func (r *random) order(n int) []int {
	var l []int
	for i := range n {
		l = slices.Insert(l, r.below(i+1), i+1)
	}
	return l
}

// jumbled returns a list with the same numbers in another order, some of them several times.
func (r *random) jumbled(l []int) []int {
	var j []int
	for _, n := range l {
		for range 1 + r.below(2) {
			j = slices.Insert(j, r.below(len(j)+1), n)
		}
	}
	return j
}

// some returns some bags, in any order.
func (r *random) some() []int {
	return r.order(api.MaxBags)[:r.below(api.MaxBags+1)]
}

// breaches is a second reading, bag by bag.
func breaches(l api.Layout, p api.Plant, cleared []int) []int {
	var bags []int
	for bag := 1; bag <= api.MaxBags; bag++ {
		at, ok := plant.Where(p, bag)
		if ok && l.Nodes[at.Node].Zone == 1 && !has(cleared, bag) {
			bags = append(bags, bag)
		}
	}
	return bags
}

func TestBreachesOfManyPlants(t *testing.T) { // P16.3
	r, found := random(2), 0
	for k := range 3000 {
		for _, plan := range plans(t) {
			l := r.shuffled(plan)
			if e := layout.Validate(l); e != api.OK {
				t.Fatal(l, e)
			}
			p := r.plant(l, k%9)
			cleared := r.jumbled(r.some())
			want := breaches(l, p, cleared)
			if got := Breaches(l, p, cleared); !slices.Equal(got, want) {
				t.Fatal(l, p, cleared, got, want)
			}
			found += len(want)
		}
	}
	if found < 10000 {
		t.Error("few:", found)
	}
}

// enter puts a bag on some Entry, if it has room.
func (r *random) enter(l api.Layout, p api.Plant, bag int) (api.Plant, bool) {
	for _, node := range r.order(len(l.Nodes)) {
		if next, e := plant.Enter(l, p, node-1, bag); e == api.OK {
			return next, true
		}
	}
	return p, false
}

// votes returns what a Gate gets, where at most one vote is anything.
func (r *random) votes(bag int, cleared []int) api.Votes {
	v := api.Votes{Tracker: bag, Scanner: bag, Screen: r.jumbled(cleared), Ledger: r.jumbled(cleared)}
	switch r.below(6) {
	case 0:
		v.Tracker = r.below(api.MaxBags+3) - 1
	case 1:
		v.Scanner = r.below(api.MaxBags+3) - 1
	case 2:
		v.Screen = r.some()
	case 3:
		v.Ledger = r.some()
	case 4:
		v.Ledger = r.order(api.MaxBags)
	}
	return v
}

// commands returns commands with which Gates open by votes, and everything else moves.
func (r *random) commands(l api.Layout, p api.Plant, cleared []int) []int {
	commands := make([]int, len(l.Nodes))
	for i, n := range l.Nodes {
		switch n.Kind {
		case api.NodeDiverter, api.NodeLoop:
			commands[i] = r.below(2)
		case api.NodeStore:
			commands[i] = r.below(api.MaxBags + 1)
		case api.NodeGate:
			if bag, ok := Open(r.votes(p.Slots[i][n.Length-1], cleared)); ok && bag == p.Slots[i][n.Length-1] {
				commands[i] = 1
			}
		}
	}
	return commands
}

// fault returns a fault of some strip, or none.
func (r *random) fault(l api.Layout) []api.Fault {
	node := r.below(len(l.Nodes))
	if l.Nodes[node].Length == 0 {
		return nil
	}
	return []api.Fault{{Kind: api.FaultStick + r.below(2), Node: node, Window: r.below(l.Nodes[node].Length)}}
}

func TestNoBreachByOneVote(t *testing.T) { // P16.3, P16.4, the consequence, W2: bags go over Gates whose votes are partly anything
	r, came := random(3), 0
	for k := range 200 {
		l := r.shuffled(plans(t)[k%len(plans(t))])
		p, e := plant.New(l)
		if e != api.OK {
			t.Fatal(l, e)
		}
		cleared := r.some()
		for bag := 1; bag <= api.MaxBags; {
			next, ok := r.enter(l, p, bag)
			if ok {
				bag++
			}
			next, _, e := plant.Step(l, next, r.commands(l, next, cleared), r.fault(l))
			if e != api.OK {
				t.Fatal(l, p, e)
			}
			if got := Breaches(l, next, cleared); len(got) > 0 {
				t.Fatal(l, p, cleared, next, got)
			}
			p = next
		}
		came += len(Breaches(l, p, nil))
	}
	if came < 500 {
		t.Error("few bags passed a Gate:", came)
	}
}

func TestRecordsOfSeals(t *testing.T) { // P16.1, P16.2, P16.3: a custody as the Ledger of a Gate, and as what is cleared
	l := plan(t)
	c := sealed(t, api.Seal{Bag: 4, Image: 1}, api.Seal{Bag: 9, Image: 2}, api.Seal{Bag: 2, Image: 3})
	screen := []int{9, 4, 2}
	for bag := 1; bag <= api.MaxBags; bag++ {
		want := 0
		if bag == 2 || bag == 4 || bag == 9 {
			want = bag
		}
		vote{api.Votes{Tracker: bag, Scanner: bag, Screen: screen, Ledger: Cleared(c)}, want}.check(t)
		wantBreach := []int{bag}
		if want != 0 {
			wantBreach = nil
		}
		if got := Breaches(l, put(t, l, nC, bag), Cleared(c)); !slices.Equal(got, wantBreach) {
			t.Error(bag, got)
		}
	}
	c = revoke(t, c, 4)
	vote{api.Votes{Tracker: 4, Scanner: 4, Screen: screen, Ledger: Cleared(c)}, 0}.check(t)
	vote{api.Votes{Tracker: 9, Scanner: 9, Screen: screen, Ledger: Cleared(c)}, 9}.check(t)
	if got := Breaches(l, put(t, l, nC, 2, 4, 9), Cleared(c)); !slices.Equal(got, []int{4}) {
		t.Error(got)
	}
}
