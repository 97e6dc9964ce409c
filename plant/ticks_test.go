package plant

import (
	"math"
	"slices"
	"testing"

	"baggage/api"
	"baggage/layout"
	"baggage/strip"
	"baggage/traffic"
)

// goal returns where the bag at a place is after a tick, read from the chapters bag by bag.
func goal(l api.Layout, p api.Plant, commands []int, faults []api.Fault, flow api.Flow, bag int, at api.Place) api.Place {
	n, s, k := l.Nodes[at.Node], p.Slots[at.Node], at.Window
	leaves := k >= 0 && k == len(s)-1
	if k < 0 {
		leaves = n.Kind == api.NodeStore && bag == commands[at.Node]
	}
	fault := 0
	for _, f := range faults {
		if f.Node == at.Node && f.Window == k {
			fault = f.Kind
		}
	}
	switch {
	case leaves && flow.Leave[at.Node] < 0:
		return at
	case leaves && n.Kind == api.NodeLoop && flow.Leave[at.Node] == 0:
		return api.Place{Node: at.Node, Window: 0}
	case leaves:
		to := n.Exits[flow.Leave[at.Node]]
		if l.Nodes[to].Length == 0 {
			return api.Place{Node: to, Window: -1}
		}
		return api.Place{Node: to, Window: 0}
	case k < 0, fault == stick, s[k+1] != 0:
		return at
	case fault == slide && k+2 < len(s) && s[k+2] == 0:
		return api.Place{Node: at.Node, Window: k + 2}
	}
	return api.Place{Node: at.Node, Window: k + 1}
}

// hasForm reports whether a plant has the form of chapter 10 and no Loop is full.
func hasForm(l api.Layout, p api.Plant) bool {
	if len(p.Slots) != len(l.Nodes) || len(p.Bins) != len(l.Nodes) {
		return false
	}
	var found [api.MaxBags + 1]bool
	for i, n := range l.Nodes {
		full := n.Kind == api.NodeLoop && !slices.Contains(p.Slots[i], 0)
		if full || len(p.Slots[i]) != n.Length || n.Length > 0 && len(p.Bins[i]) > 0 || !slices.IsSorted(p.Bins[i]) {
			return false
		}
		for _, bag := range append(slices.Clone(p.Slots[i]), p.Bins[i]...) {
			if bag < 0 || bag > api.MaxBags || bag > 0 && found[bag] {
				return false
			}
			found[bag] = bag > 0
		}
		if slices.Contains(p.Bins[i], 0) {
			return false
		}
	}
	return true
}

// places returns the places of all bags.
func places(p api.Plant) map[int]api.Place {
	all := map[int]api.Place{}
	for i := range p.Slots {
		for k, bag := range p.Slots[i] {
			if bag != 0 {
				all[bag] = api.Place{Node: i, Window: k}
			}
		}
		for _, bag := range p.Bins[i] {
			all[bag] = api.Place{Node: i, Window: -1}
		}
	}
	return all
}

// check makes a step, holds it against goal for each bag, and returns the plant after it.
func check(t *testing.T, l api.Layout, p api.Plant, commands []int, faults []api.Fault) api.Plant {
	t.Helper()
	next, moved, e := Step(l, p, commands, faults)
	flow, flows := traffic.Flows(l, p, commands, faults)
	if e != api.OK || flows != api.OK || !hasForm(l, next) {
		t.Fatal(l, p, commands, faults, next, e, flows)
	}
	before, after := places(p), places(next)
	var passages []api.Passage
	for bag, at := range before {
		want := goal(l, p, commands, faults, flow, bag, at)
		if got, ok := Where(next, bag); !ok || got != want || after[bag] != want {
			t.Fatal(l, p, commands, faults, next, "bag", bag, "is at", got, ok, "not", want)
		}
		if want.Node != at.Node {
			passages = append(passages, api.Passage{Bag: bag, From: at.Node, To: want.Node})
		}
	}
	slices.SortFunc(passages, func(a, b api.Passage) int { return a.From - b.From })
	if len(after) != len(before) || !slices.Equal(moved, passages) || !slices.Equal(Bags(next), Bags(p)) {
		t.Fatal(l, p, commands, faults, next, moved, passages)
	}
	return next
}

// random is a sequence of numbers that looks random.
type random uint32

// below returns a number from 0 to n-1.
func (r *random) below(n int) int {
	*r = *r*1664525 + 1013904223
	return int(*r>>8) % n
}

// plans returns layouts in which many nodes lead to the same ones.
func plans(t *testing.T) []api.Layout {
	t.Helper()
	return []api.Layout{
		all(t),
		parse(t, "entry E 1 0 > B", "entry F 2 0 > B", "entry G 1 0 > D", "diverter D 2 0 > B C", "diverter H 1 0 > C B", "belt B 3 0 > C", "belt C 1 0 > M", "manual M 0"),
		parse(t, "entry E 1 0 > L", "loop L 3 0 > L K", "entry F 1 0 > D", "diverter D 1 0 > L K", "loop K 2 0 > K N", "entry G 1 0 > N", "loop J 2 0 > J K", "loop N 4 0 > N M", "manual M 0"),
		parse(t, "entry E 1 0 > G", "gate G 1 0 > F V", "gate F 1 0 > M V", "manual M 0", "diverter V 1 1 > P L", "store P 1 > L", "store Q 1 > P", "store R 1 > B", "loop L 3 1 > L B", "diverter B 1 1 > C H", "belt W 2 1 > B", "chute C 1", "chute H 1"),
	}
}

// shuffled returns a layout with other indices for its nodes and other lengths, without devices.
func (r *random) shuffled(l api.Layout) api.Layout {
	var at []int // the new index of each node
	for i := range l.Nodes {
		at = slices.Insert(at, r.below(i+1), i)
	}
	s := api.Layout{Nodes: make([]api.Node, len(l.Nodes))}
	for i, n := range l.Nodes {
		n.Exits = slices.Clone(n.Exits)
		for k, to := range n.Exits {
			n.Exits[k] = at[to]
		}
		switch {
		case n.Kind == api.NodeLoop:
			n.Length = 2 + r.below(3)
		case n.Length > 0:
			n.Length = 1 + r.below(4)
		}
		s.Nodes[at[i]] = n
	}
	return s
}

// plant returns a plant in which no Loop is full; of each number of windows, about full of eight have bags.
func (r *random) plant(l api.Layout, full int) api.Plant {
	p := api.Plant{Slots: make([][]int, len(l.Nodes)), Bins: make([][]int, len(l.Nodes))}
	var bags []int
	for b := range api.MaxBags {
		bags = slices.Insert(bags, r.below(b+1), b+1)
	}
	next := func() int {
		if len(bags) == 0 || r.below(8) >= full {
			return 0
		}
		b := bags[0]
		bags = bags[1:]
		return b
	}
	for i, n := range l.Nodes {
		p.Slots[i] = make([]int, n.Length)
		for k := range p.Slots[i] {
			p.Slots[i][k] = next()
		}
		if n.Kind == api.NodeLoop && strip.Free(p.Slots[i]) == 0 {
			p.Slots[i][r.below(n.Length)] = 0
		}
	}
	for i, n := range l.Nodes {
		if layout.IsBin(n) && len(bags) > 3 {
			p.Bins[i], bags = slices.Sorted(slices.Values(bags[:3])), bags[3:]
		}
	}
	return p
}

// commands returns commands that let most bags go.
func (r *random) commands(l api.Layout, p api.Plant) []int {
	commands := make([]int, len(l.Nodes))
	for i, n := range l.Nodes {
		switch {
		case n.Kind == api.NodeStore:
			commands[i] = r.below(api.MaxBags + 1)
			if len(p.Bins[i]) > 0 && r.below(3) > 0 {
				commands[i] = p.Bins[i][r.below(len(p.Bins[i]))]
			}
		case n.Length > 0:
			commands[i] = r.below(len(n.Exits))
			if n.Kind != api.NodeLoop && r.below(6) == 0 {
				commands[i] = -1
			}
		}
	}
	return commands
}

// faults returns some movement faults at different windows, most of them with a bag.
func (r *random) faults(l api.Layout, p api.Plant) []api.Fault {
	var faults []api.Fault
	for range 3 * r.below(api.MaxFaults+1) {
		f := api.Fault{Kind: stick + r.below(2), Node: r.below(len(l.Nodes))}
		length := l.Nodes[f.Node].Length
		if length == 0 || len(faults) == api.MaxFaults {
			continue
		}
		f.Window = r.below(length)
		if p.Slots[f.Node][f.Window] == 0 && r.below(4) > 0 {
			continue
		}
		if !slices.ContainsFunc(faults, func(o api.Fault) bool { return o.Node == f.Node && o.Window == f.Window }) {
			faults = append(faults, f)
		}
	}
	return faults
}

func TestManyPlants(t *testing.T) { // P11.2, P11.3, P11.4
	r := random(1)
	for k := range 5000 {
		for _, plan := range plans(t) {
			l := r.shuffled(plan)
			p := r.plant(l, k%9)
			check(t, l, p, r.commands(l, p), r.faults(l, p))
		}
	}
}

func TestEveryPlant(t *testing.T) { // P11.2, P11.3: all plants and commands of a small layout, with all single faults
	l := parse(t, "entry E 2 0 > B", "loop L 3 0 > L B", "belt B 3 0 > M", "manual M 0")
	for set := range 1 << 8 {
		p, window := plantOf(t, l, ""), 0
		for i := range p.Slots {
			for k := range p.Slots[i] {
				p.Slots[i][k] = set >> window & 1 * (window + 1)
				window++
			}
		}
		if strip.Free(p.Slots[1]) == 0 {
			continue
		}
		for c := range 1 << 3 {
			commands := []int{-(c & 1), c >> 1 & 1, -(c >> 2 & 1), 0}
			check(t, l, p, commands, nil)
			for i, n := range l.Nodes {
				for k := range n.Length {
					check(t, l, p, commands, []api.Fault{sticks(i, k)})
					check(t, l, p, commands, []api.Fault{slides(i, k)})
				}
			}
		}
	}
}

func TestManyTicks(t *testing.T) { // P11.1, P11.2, the consequences
	r, full := random(2), 0
	for range 60 {
		for _, plan := range plans(t) {
			l := r.shuffled(plan)
			p, e := New(l)
			if e != api.OK {
				t.Fatal(l, e)
			}
			var put []int
			for range 150 {
				node, bag := r.below(len(l.Nodes)), 1+len(put)
				q, e := Enter(l, p, node, bag)
				switch {
				case e == api.OK:
					p, put = q, append(put, bag)
					where(t, p, bag, node, 0)
				case l.Nodes[node].Kind == api.NodeEntry && bag <= api.MaxBags:
					full++
					if e != api.ErrFull || p.Slots[node][0] == 0 {
						t.Fatal(l, p, node, bag, e)
					}
				}
				p = check(t, l, p, r.commands(l, p), r.faults(l, p))
				if !slices.Equal(Bags(p), put) {
					t.Fatal(l, p, put)
				}
			}
		}
	}
	if full < 100 {
		t.Error("seldom:", full)
	}
}

// onStrips returns the number of bags on strips, and how far the foremost one is: the number of windows behind it or its own, in the order of layout.Order.
func onStrips(l api.Layout, p api.Plant) (int, int) {
	bags, foremost, window := 0, 0, 0
	for _, i := range layout.Order(l) {
		for _, bag := range p.Slots[i] {
			window++
			if bag != 0 {
				bags, foremost = bags+1, window
			}
		}
	}
	return bags, foremost
}

// onward returns commands of P11.5.
func (r *random) onward(l api.Layout) []int {
	commands := make([]int, len(l.Nodes))
	for i, n := range l.Nodes {
		switch {
		case n.Kind == api.NodeLoop:
			commands[i] = 1
		case n.Length > 0:
			commands[i] = r.below(len(n.Exits))
		}
	}
	return commands
}

func TestProgress(t *testing.T) { // P11.5
	r := random(3)
	for k := range 600 {
		for _, plan := range plans(t) {
			l := r.shuffled(plan)
			p := r.plant(l, 1+k%8)
			commands := r.onward(l)
			bags, foremost := onStrips(l, p)
			for ticks := Bound(l, bags); bags > 0; ticks-- {
				if ticks == 0 {
					t.Fatal("bags are not in bins:", l, p)
				}
				if k%2 == 0 { // they may change from tick to tick
					commands = r.onward(l)
				}
				next := check(t, l, p, commands, nil)
				now, after := onStrips(l, next)
				if now == bags && after <= foremost {
					t.Fatal("no bag is farther ahead:", l, p, commands, next)
				}
				p, bags, foremost = next, now, after
			}
		}
	}
}

func TestProgressOfOneBag(t *testing.T) { // P11.4, P11.5: a single bag in a chain needs the whole bound
	l := parse(t, "entry E 3 0 > S", "screen S 2 0 > L", "loop L 4 0 > L B", "belt B 5 0 > M", "manual M 0")
	p := plantOf(t, l, "E=100")
	for tick := range Bound(l, 1) {
		if at, ok := Where(p, 1); !ok || at.Node == 4 {
			t.Error("too early:", tick)
		}
		p = check(t, l, p, []int{0, 0, 1, 0, 0}, nil)
	}
	where(t, p, 1, 4, -1)
}

func TestLargestLayout(t *testing.T) { // P11.2, P11.5, rule 1
	l := parse(t, "entry A 8 0 > B", "loop B 8 0 > B C", "loop C 8 0 > C D", "loop D 8 0 > D E", "loop E 8 0 > E F", "loop F 8 0 > F G", "loop G 8 0 > G H", "loop H 8 0 > H I", "loop I 8 0 > I J", "loop J 8 0 > J M", "manual M 0")
	p := plantOf(t, l, "")
	for bag := range api.MaxBags { // they stand at the end of the Entry and the first Loops
		at, k := bag/7, bag%7
		p.Slots[at][7-k] = bag + 1
	}
	for range Bound(l, api.MaxBags) {
		p = check(t, l, p, []int{0, 1, 1, 1, 1, 1, 1, 1, 1, 1, 0}, nil)
	}
	if got := p.Bins[10]; len(got) != api.MaxBags || Bound(l, math.MaxInt) != api.MaxBags*api.MaxWindows {
		t.Error(got)
	}
}

// spoil changes a layout, a plant, commands or faults so that they do not have their form.
func (r *random) spoil(l *api.Layout, p *api.Plant, commands *[]int, faults *[]api.Fault) {
	numbers := []int{math.MinInt, -2, -1, 0, 1, 2, 5, 9, 14, 40, math.MaxInt - 1, math.MaxInt}
	pick := func() int { return numbers[r.below(len(numbers))] }
	some := func() []int { return []int{pick(), pick(), pick()}[:r.below(4)] }
	i := r.below(len(l.Nodes))
	switch r.below(12) {
	case 0:
		l.Nodes[i].Kind = pick()
	case 1:
		l.Nodes[i].Length = pick()
	case 2:
		l.Nodes[i].Exits = some()
	case 3:
		l.Nodes = l.Nodes[:1+i]
		*commands = (*commands)[:1+i]
	case 4:
		*commands = append(*commands, pick())[r.below(2):]
	case 5:
		(*commands)[i] = pick()
	case 6:
		*faults = append(*faults, api.Fault{Kind: stick + r.below(2), Node: i, Window: pick()})
	case 7:
		p.Slots = p.Slots[:r.below(len(p.Slots)+1)]
	case 8:
		p.Bins = p.Bins[:r.below(len(p.Bins)+1)]
	case 9:
		p.Slots, p.Bins = append(p.Slots, some()), append(p.Bins, some())
	case 10:
		if i < len(p.Slots) {
			p.Slots[i] = some()
		}
	case 11:
		if i < len(p.Bins) {
			p.Bins[i] = some()
		}
	}
}

func TestAnyArguments(t *testing.T) { // rule 1, rule 3
	r := random(4)
	for range 4000 {
		for _, plan := range plans(t) {
			l := r.shuffled(plan)
			p := r.plant(l, 5)
			commands, faults := r.commands(l, p), r.faults(l, p)
			for range 1 + r.below(3) {
				if len(commands) == len(l.Nodes) {
					r.spoil(&l, &p, &commands, &faults)
				}
			}
			if q, e := New(l); e != layout.Validate(l) || e != api.OK && !isZero(q) {
				t.Fatal(l, q, e)
			}
			if q, e := Enter(l, p, r.below(15), r.below(42)); e != api.OK && !isZero(q) {
				t.Fatal(l, p, q, e)
			}
			q, moved, e := Step(l, p, commands, faults)
			if e != api.OK && (!isZero(q) || len(moved) > 0) {
				t.Fatal(l, p, commands, faults, q, moved, e)
			}
			for _, bag := range Bags(p) {
				if _, ok := Where(p, bag); ok != (bag != 0) {
					t.Fatal(p, bag, ok)
				}
			}
			if !Same(p, p) || Bound(l, 1) != layout.Windows(l) {
				t.Fatal(l, p)
			}
		}
	}
}

func TestLayoutsOfAnyLength(t *testing.T) { // rule 1
	l := parse(t, "entry E 1 0 > M", "manual M 0")
	for _, length := range []int{math.MinInt, -1, 0, 9, 1 << 40, math.MaxInt} {
		l.Nodes[0].Length = length
		for _, window := range []int{0, 1, 8, 19, 1 << 39, math.MaxInt - 1} {
			for _, windows := range [][]int{nil, {1, 0}, make([]int, 20)} {
				Step(l, api.Plant{Slots: [][]int{windows, nil}, Bins: [][]int{nil, nil}}, []int{0, 0}, []api.Fault{sticks(0, window)})
			}
		}
		New(l)
		Bound(l, math.MaxInt)
	}
	Step(api.Layout{Nodes: make([]api.Node, 100000)}, api.Plant{}, make([]int, 100000), nil)
	Step(api.Layout{}, api.Plant{Slots: [][]int{{1}}, Bins: [][]int{{1}}}, nil, nil)
	Enter(api.Layout{Nodes: []api.Node{{Kind: api.NodeEntry, Length: 4}}}, api.Plant{}, 0, 1)
}

// spare returns a list whose spare capacity is not empty.
func spare[T any](l []T, extra T) []T {
	return append(slices.Clone(l), extra, extra, extra)[:len(l)]
}

// flat returns all numbers of a plant, with those in the spare capacity of its lists.
func flat(p api.Plant) []int {
	var numbers []int
	for _, rows := range [][][]int{p.Slots, p.Bins} {
		rows = rows[:cap(rows)]
		numbers = append(numbers, len(rows))
		for _, row := range rows {
			numbers = append(append(numbers, cap(row), len(row)), row[:cap(row)]...)
		}
	}
	return numbers
}

// overwrite changes all numbers of a plant, also those in the spare capacity of its lists.
func overwrite(p api.Plant) {
	for _, rows := range [][][]int{p.Slots, p.Bins} {
		for _, row := range rows[:cap(rows)] {
			row = row[:cap(row)]
			for k := range row {
				row[k] -= 1000
			}
		}
	}
}

// sparePlant returns a plant with spare capacity everywhere.
func sparePlant(p api.Plant) api.Plant {
	s := api.Plant{Slots: spare(p.Slots, []int{8, 8}), Bins: spare(p.Bins, []int{8, 8})}
	for i := range p.Slots {
		s.Slots[i], s.Bins[i] = spare(p.Slots[i], 8), spare(p.Bins[i], 8)
	}
	return s
}

func TestArgumentsAreKept(t *testing.T) { // rule 2
	l := all(t)
	for i := range l.Nodes {
		l.Nodes[i].Exits = spare(l.Nodes[i].Exits, 8)
	}
	p := sparePlant(plantOf(t, l, "S=12 L=003 V=04 P=56 Q=7 K=008 M=9"))
	p.Bins[11] = spare([]int{11, 40}, 8)
	commands, faults := spare(commandsOf(t, l, "L=1 V=0 P=5 Q=7 K=1"), 8), spare([]api.Fault{sticks(1, 0), slides(2, 2)}, sticks(9, 9))
	want, list, wrong := flat(p), slices.Clone(commands[:cap(commands)]), slices.Clone(faults[:cap(faults)])
	var exits [][]int
	for _, n := range l.Nodes {
		exits = append(exits, slices.Clone(n.Exits[:cap(n.Exits)]))
	}
	New(l)
	Enter(l, p, 0, 10)
	Enter(l, p, 0, 1)
	Step(l, p, commands, faults)
	Step(l, p, commands, nil)
	Step(l, p, commands[1:], faults)
	Where(p, 9)
	Bags(p)
	Bound(l, 4)
	Same(p, p)
	if !slices.Equal(flat(p), want) || !slices.Equal(commands[:cap(commands)], list) || !slices.Equal(faults[:cap(faults)], wrong) {
		t.Error(p, commands, faults)
	}
	for i, n := range l.Nodes {
		if !slices.Equal(n.Exits[:cap(n.Exits)], exits[i]) {
			t.Error(n)
		}
	}
}

func TestResultsShareNoMemory(t *testing.T) { // rule 2
	l := all(t)
	p := sparePlant(plantOf(t, l, "S=12 L=003 V=04 P=56 Q=7 K=008 M=9"))
	commands, want := commandsOf(t, l, "L=1 P=5 Q=7 K=1"), flat(p)
	results := func() []api.Plant {
		a, _ := New(l)
		b, _ := Enter(l, p, 0, 10)
		c, moved, _ := Step(l, p, commands, nil)
		d, _, _ := Step(l, p, make([]int, len(l.Nodes)), nil)
		for i := range moved {
			moved[i] = api.Passage{}
		}
		for i, bags := 0, Bags(p); i < len(bags); i++ {
			bags[i] = -7
		}
		return []api.Plant{a, b, c, d}
	}
	first := results()
	for i := range first {
		before := [][]int{flat(first[0]), flat(first[1]), flat(first[2]), flat(first[3])}
		overwrite(first[i])
		for k := range first {
			if k != i && !slices.Equal(flat(first[k]), before[k]) {
				t.Error("results", i, "and", k, "share memory")
			}
		}
	}
	if !slices.Equal(flat(p), want) {
		t.Error("results share memory with the plant:", p)
	}
	second := results()
	for _, q := range second { // no two lists of a plant share memory: each number is changed once
		numbers := flat(q)
		overwrite(q)
		for k, n := range flat(q) {
			if n != numbers[k] && n != numbers[k]-1000 {
				t.Error("lists of a plant share memory:", q)
			}
		}
	}
}

func TestClone(t *testing.T) { // rule 2
	p := sparePlant(plantOf(t, all(t), "S=12 L=003 V=04 P=56 Q=7 K=008 M=9"))
	want, c := flat(p), Clone(p)
	if !equal(c, p) {
		t.Error(c, p)
	}
	overwrite(c)
	if !slices.Equal(flat(p), want) {
		t.Error("a copy shares memory with the plant:", p)
	}
	if c := Clone(api.Plant{}); !isZero(c) {
		t.Error(c)
	}
}
