package infer

import (
	"math"
	"slices"
	"testing"

	"baggage/api"
	"baggage/plant"
)

// arguments are those of all functions.
type arguments struct {
	l         api.Layout
	a, b      api.Belief
	p         api.Plant
	commands  []int
	plates    []api.Plate
	reports   []api.Report
	node, bag int
}

// beliefs returns what the functions return for some arguments, and the errors.
func (x arguments) beliefs() ([]api.Belief, []api.Errno) {
	var all []api.Belief
	var errors []api.Errno
	add := func(b api.Belief, e api.Errno) {
		all, errors = append(all, b), append(errors, e)
	}
	add(New(x.l, x.b.Budget))
	add(Enter(x.l, x.b, x.node, x.bag))
	add(Step(x.l, x.b, x.commands, x.plates, x.reports))
	add(Blind(x.l, x.b, x.commands))
	add(Union(x.a, x.b))
	add(Union(x.b, x.b))
	add(Seen(x.l, x.b, x.node, x.bag))
	return all, errors
}

// lists calls the functions that return no beliefs, and returns what they return as lists.
func (x arguments) lists() ([]api.Place, []int) {
	place, _ := Sure(x.b, x.bag)
	used, _ := Has(x.b, x.p)
	Same(x.a, x.b)
	return append(Places(x.b, x.bag), place), append(At(x.b, x.node), used)
}

// some returns arguments that have their form.
func (r *random) some(l api.Layout) arguments {
	x := arguments{l: r.shuffled(l), node: r.below(10), bag: r.below(12)}
	x.a.Budget = r.below(api.MaxBudget + 1)
	x.b.Budget = x.a.Budget
	for range 3 {
		x.a.L = append(x.a.L, api.Hypothesis{Used: r.below(3), Plant: r.plant(x.l, 2)})
		x.b.L = append(x.b.L, api.Hypothesis{Used: r.below(3), Plant: r.plant(x.l, 2)})
	}
	x.p = plant.Clone(x.b.L[r.below(3)].Plant)
	x.commands = r.commands(x.l, x.p)
	for range r.below(9) {
		x.plates = append(x.plates, api.Plate{Airline: 117, Serial: r.below(100)})
	}
	for i := range x.l.Devices {
		x.reports = append(x.reports, api.Report{Device: i, Seen: r.below(2) == 0, Read: []string{"", "0117000001", "?117000001", "x"}[r.below(4)]})
	}
	return x
}

// spoil changes arguments so that they do not have their form.
func (r *random) spoil(x *arguments) {
	odd := []int{math.MinInt, -2, -1, 0, 1, 2, 3, 5, 9, 39, 40, 41, 256, 300, 1 << 40, math.MaxInt - 1, math.MaxInt}
	pick := func() int { return odd[r.below(len(odd))] }
	row := func() []int { return []int{pick(), pick(), pick()}[:r.below(4)] }
	h, i := &x.b.L[r.below(len(x.b.L))], r.below(len(x.l.Nodes))
	switch r.below(16) {
	case 0:
		x.l.Nodes[i].Kind = pick()
	case 1:
		x.l.Nodes[i].Length = pick()
	case 2:
		x.l.Nodes[i].Exits = row()
	case 3:
		x.l.Nodes = x.l.Nodes[:1+i]
		x.commands = x.commands[:min(1+i, len(x.commands))]
	case 4:
		x.l.Devices = append(x.l.Devices, api.Device{Kind: pick(), Node: pick(), Window: pick()})
		x.reports = append(x.reports, api.Report{Device: len(x.l.Devices) - 1, Seen: true})
	case 5:
		x.commands = append(x.commands, pick())[r.below(2):]
	case 6:
		x.reports = append(x.reports, api.Report{Device: pick()})[r.below(2):]
	case 7:
		x.plates = append(x.plates, api.Plate{Lead: pick(), Airline: pick(), Serial: pick()})
	case 8:
		h.Plant.Slots = h.Plant.Slots[:r.below(len(h.Plant.Slots)+1)]
	case 9:
		h.Plant.Bins = h.Plant.Bins[:r.below(len(h.Plant.Bins)+1)]
	case 10:
		h.Plant.Slots, h.Plant.Bins = append(h.Plant.Slots, row()), append(h.Plant.Bins, row())
	case 11:
		if i < len(h.Plant.Slots) {
			h.Plant.Slots[i] = row()
		}
	case 12:
		if i < len(h.Plant.Bins) {
			h.Plant.Bins[i] = row()
		}
	case 13:
		h.Used = pick()
	case 14:
		x.b.Budget = pick()
		x.a.Budget = x.b.Budget
	case 15:
		x.node, x.bag = pick(), pick()
	}
}

func TestAnyArguments(t *testing.T) { // rule 1, rule 3
	r := random(4)
	for range 2000 {
		for _, plan := range plans(t) {
			x := r.some(plan)
			for range 1 + r.below(4) {
				r.spoil(&x)
			}
			all, errors := x.beliefs()
			for i, b := range all {
				if errors[i] != api.OK && !isZero(b) {
					t.Fatal(i, x, b, errors[i])
				}
				if !Same(b, b) || errors[i] == api.OK && (i < 4 || i > 5) && len(b.L) == 0 {
					t.Fatal(i, x, b)
				}
			}
			x.lists()
		}
	}
}

func TestLargeArguments(t *testing.T) { // rule 1: windows, hypotheses and budgets that no belief of the package has
	l := parse(t, "entry A 8 0 > B", "belt B 8 0 > C", "belt C 8 0 > D", "belt D 8 0 > M", "manual M 0")
	p, _ := plant.New(l)
	for i := range 4 {
		for k := range p.Slots[i] {
			p.Slots[i][k] = k % 2 * (8*i + k)
		}
	}
	c := make([]int, 5)
	for _, budget := range []int{math.MinInt, -1, 0, 1, 2, 3, 40, math.MaxInt} {
		for _, used := range []int{math.MinInt, -1, 0, 1, 2, 3, 40, math.MaxInt} {
			b := api.Belief{Budget: budget, L: []api.Hypothesis{{Used: used, Plant: p}}}
			Blind(l, b, c)
			Step(l, b, c, nil, nil)
		}
	}
	wide := api.Plant{Slots: [][]int{make([]int, 100000)}, Bins: [][]int{nil}}
	for k := range wide.Slots[0] {
		wide.Slots[0][k] = k % 3
	}
	for _, length := range []int{8, len(wide.Slots[0])} {
		long := api.Layout{Nodes: []api.Node{{Name: "A", Kind: api.NodeEntry, Length: length, Exits: []int{0}}}}
		Blind(long, api.Belief{Budget: 2, L: []api.Hypothesis{{Plant: wide}}}, []int{0})
	}
	many := api.Layout{Nodes: make([]api.Node, 10000)}
	Blind(many, api.Belief{Budget: 2, L: []api.Hypothesis{{}}}, make([]int, 10000))
	b := api.Belief{Budget: 2}
	for i := range 100000 {
		b.L = append(b.L, api.Hypothesis{Plant: api.Plant{Slots: [][]int{{i}, {i + 1}}}})
	}
	if got := At(b, 0); len(got) != len(b.L) {
		t.Error(len(got))
	}
	Places(b, 9)
	Sure(b, 9)
	Union(b, b)
	Blind(l, b, c)
}

// spare returns a list whose spare capacity is not empty.
func spare[T any](l []T, extra T) []T {
	return append(slices.Clone(l), extra, extra, extra)[:len(l)]
}

// sparePlant returns a plant with spare capacity everywhere.
func sparePlant(p api.Plant) api.Plant {
	s := api.Plant{Slots: spare(p.Slots, []int{8, 8}), Bins: spare(p.Bins, []int{8, 8})}
	for i := range p.Slots {
		s.Slots[i], s.Bins[i] = spare(p.Slots[i], 8), spare(p.Bins[i], 8)
	}
	return s
}

// spareBelief returns a belief with spare capacity everywhere.
func spareBelief(b api.Belief) api.Belief {
	s := api.Belief{Budget: b.Budget, L: spare(b.L, api.Hypothesis{Used: 9})}
	for i, h := range b.L {
		s.L[i].Plant = sparePlant(h.Plant)
	}
	return s
}

// flat returns all numbers of a belief, with those in the spare capacity of its lists.
func flat(b api.Belief) []int {
	all := []int{b.Budget, len(b.L)}
	for _, h := range b.L[:cap(b.L)] {
		all = append(all, h.Used)
		for _, rows := range [][][]int{h.Plant.Slots, h.Plant.Bins} {
			rows = rows[:cap(rows)]
			all = append(all, len(rows))
			for _, row := range rows {
				all = append(append(all, cap(row), len(row)), row[:cap(row)]...)
			}
		}
	}
	return all
}

// overwrite changes all numbers of a belief, also those in the spare capacity of its lists.
func overwrite(b api.Belief) {
	for i, h := range b.L[:cap(b.L)] {
		b.L[:cap(b.L)][i].Used -= 1000
		for _, rows := range [][][]int{h.Plant.Slots, h.Plant.Bins} {
			for _, row := range rows[:cap(rows)] {
				row = row[:cap(row)]
				for k := range row {
					row[k] -= 1000
				}
			}
		}
	}
}

// full returns arguments for which no function fails, with spare capacity everywhere.
func full(t *testing.T) arguments {
	t.Helper()
	l := parse(t, "entry A 3 0 > G", "gate G 1 0 > M P", "store P 1 > C", "manual M 0", "chute C 1", "photocell A 1", "scanner G 0")
	for i := range l.Nodes {
		l.Nodes[i].Exits = spare(l.Nodes[i].Exits, 2)
	}
	l.Nodes, l.Devices = spare(l.Nodes, api.Node{Name: "X"}), spare(l.Devices, api.Device{Kind: 2})
	return arguments{
		l:        l,
		a:        spareBelief(beliefOf(t, l, 2, "000,1,(46),(2),(3):1 010,0,(4),(2),(36):1")),
		b:        spareBelief(beliefOf(t, l, 2, "001,0,(46),(2),(3):1 010,0,(46),(2),(3):0")),
		p:        sparePlant(hypothesisOf(t, l, "010,0,(46),(2),(3):0").Plant),
		commands: spare([]int{0, 1, 4, 0, 0}, 1),
		plates:   spare(run(t), api.Plate{Airline: 9}),
		reports:  spare(reportsOf("- -"), api.Report{Device: 2}),
		node:     3, bag: 2,
	}
}

func TestArgumentsAreKept(t *testing.T) { // rule 2
	x, y := full(t), full(t)
	for _, node := range []int{0, 3} {
		for _, bag := range []int{1, 2, 7} {
			x.node, x.bag = node, bag
			x.beliefs()
			x.lists()
		}
	}
	for i, n := range x.l.Nodes[:cap(x.l.Nodes)] {
		m := y.l.Nodes[:cap(y.l.Nodes)][i]
		if n.Name != m.Name || n.Length != m.Length || !slices.Equal(n.Exits[:cap(n.Exits)], m.Exits[:cap(m.Exits)]) {
			t.Error(n, m)
		}
	}
	p, q := api.Belief{L: []api.Hypothesis{{Plant: x.p}}}, api.Belief{L: []api.Hypothesis{{Plant: y.p}}}
	if !slices.Equal(flat(x.a), flat(y.a)) || !slices.Equal(flat(x.b), flat(y.b)) || !slices.Equal(flat(p), flat(q)) {
		t.Error(x.a, x.b, x.p)
	}
	if !slices.Equal(x.commands[:cap(x.commands)], y.commands[:cap(y.commands)]) || !slices.Equal(x.plates[:cap(x.plates)], y.plates[:cap(y.plates)]) ||
		!slices.Equal(x.reports[:cap(x.reports)], y.reports[:cap(y.reports)]) || !slices.Equal(x.l.Devices[:cap(x.l.Devices)], y.l.Devices[:cap(y.l.Devices)]) {
		t.Error(x.commands, x.plates, x.reports, x.l.Devices)
	}
}

func TestResultsShareNoMemory(t *testing.T) { // rule 2
	x := full(t)
	results := func() []api.Belief {
		all, errors := x.beliefs()
		entered, e := Enter(x.l, x.b, 0, 7)
		all, errors = append(all, entered), append(errors, e)
		for i, e := range errors {
			if (e != api.OK) != (i == 1) { // a bag is found in M, but none enters there
				t.Fatal(i, e)
			}
		}
		return all
	}
	first := results()
	for i := range first {
		var before [][]int
		for _, b := range first {
			before = append(before, flat(b))
		}
		overwrite(first[i])
		for k := range first {
			if k != i && !slices.Equal(flat(first[k]), before[k]) {
				t.Error("results", i, "and", k, "share memory")
			}
		}
	}
	if y := full(t); !slices.Equal(flat(x.a), flat(y.a)) || !slices.Equal(flat(x.b), flat(y.b)) {
		t.Error("results share memory with the beliefs:", x.a, x.b)
	}
	places, numbers := x.lists()
	wantPlaces, wantNumbers := x.lists()
	for i := range places[:cap(places)] {
		places[:cap(places)][i] = api.Place{Node: -7}
	}
	for i := range numbers[:cap(numbers)] {
		numbers[:cap(numbers)][i] = -7
	}
	if places, numbers = x.lists(); !slices.Equal(places, wantPlaces) || !slices.Equal(numbers, wantNumbers) {
		t.Error(places, numbers)
	}
	for _, b := range results() { // no two lists of a belief share memory: each number is changed once
		numbers := flat(b)
		overwrite(b)
		for k, n := range flat(b) {
			if n != numbers[k] && n != numbers[k]-1000 {
				t.Error("lists of a belief share memory:", b)
			}
		}
	}
}
