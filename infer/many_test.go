package infer

import (
	"slices"
	"strconv"
	"testing"

	"baggage/api"
	"baggage/plant"
	"baggage/sensor"
)

// random is a sequence of numbers that looks random.
type random uint32

// below returns a number from 0 to n-1.
func (r *random) below(n int) int {
	*r = *r*1664525 + 1013904223
	return int(*r>>8) % n
}

// plans returns layouts with nodes of all kinds.
func plans(t *testing.T) []api.Layout {
	t.Helper()
	return []api.Layout{
		parse(t, "entry A 3 0 > M", "manual M 0"),
		parse(t, "entry E 1 0 > B", "entry F 2 0 > B", "entry G 1 0 > D", "diverter D 2 0 > B C", "belt B 3 0 > C", "belt C 1 0 > M", "manual M 0"),
		parse(t, "entry E 1 0 > L", "loop L 3 0 > L K", "entry F 1 0 > D", "diverter D 1 0 > L K", "loop K 2 0 > K N", "entry G 1 0 > N", "loop J 2 0 > J K", "loop N 4 0 > N M", "manual M 0"),
		parse(t, "entry E 2 0 > S", "screen S 1 0 > G", "gate G 1 0 > L V", "loop L 3 0 > L M", "manual M 0", "diverter V 1 1 > P C", "store P 1 > K", "loop K 3 1 > K C", "chute C 1"),
	}
}

// shuffled returns a layout with other indices for its nodes, other lengths, and some devices.
func (r *random) shuffled(l api.Layout) api.Layout {
	var at []int // the new index of each node
	for i := range l.Nodes {
		at = slices.Insert(at, r.below(i+1), i)
	}
	s := api.Layout{Nodes: make([]api.Node, len(l.Nodes))}
	for i, n := range l.Nodes {
		n.Exits = slices.Clone(n.Exits)
		for k, to := range n.Exits {
			n.Exits[k] = at[to]
		}
		switch {
		case n.Kind == api.NodeLoop:
			n.Length = 2 + r.below(3)
		case n.Length > 0:
			n.Length = 1 + r.below(5)
		}
		s.Nodes[at[i]] = n
	}
	for range r.below(10) {
		d := api.Device{Kind: api.DevPhotocell + r.below(2), Node: r.below(len(s.Nodes))}
		if length := s.Nodes[d.Node].Length; length > 0 {
			d.Window = r.below(length)
			if !slices.Contains(s.Devices, d) {
				s.Devices = append(s.Devices, d)
			}
		}
	}
	return s
}

// commands returns commands that let most bags go.
func (r *random) commands(l api.Layout, p api.Plant) []int {
	commands := make([]int, len(l.Nodes))
	for i, n := range l.Nodes {
		switch {
		case n.Kind == api.NodeStore && len(p.Bins[i]) > 0:
			commands[i] = p.Bins[i][r.below(len(p.Bins[i]))]
		case n.Length > 0:
			commands[i] = r.below(len(n.Exits))
			if n.Kind != api.NodeLoop && r.below(8) == 0 {
				commands[i] = -1
			}
		}
	}
	return commands
}

// clash reports whether two faults are those of the same window or device.
func clash(a, b api.Fault) bool {
	return a.Node == b.Node && (a.Window == b.Window || a.Kind >= api.FaultMiss)
}

// sets returns all sets of at most so many of the faults, without two that clash.
func sets(faults []api.Fault, most int) [][]api.Fault {
	all := [][]api.Fault{nil}
	for _, f := range faults {
		for _, s := range all {
			if len(s) < most && !slices.ContainsFunc(s, func(o api.Fault) bool { return clash(o, f) }) {
				all = append(all, append(slices.Clone(s), f))
			}
		}
	}
	return all
}

// movements returns all movement faults at windows with a bag, whether they have a consequence or not.
func movements(p api.Plant) []api.Fault {
	var faults []api.Fault
	for i, windows := range p.Slots {
		for k, bag := range windows {
			if bag != 0 {
				faults = append(faults, api.Fault{Kind: api.FaultStick, Node: i, Window: k}, api.Fault{Kind: api.FaultSlide, Node: i, Window: k})
			}
		}
	}
	return faults
}

// list returns the numbers by which a plant is compared.
func list(p api.Plant) []int {
	all := slices.Concat(p.Slots...)
	for _, bags := range p.Bins {
		all = append(append(all, len(bags)), bags...)
	}
	return all
}

// reading is a second reading of the chapter: hypotheses by the text of their plants.
type reading map[string]api.Hypothesis

func (d reading) add(p api.Plant, used, budget int) {
	name := ""
	for _, n := range list(p) {
		name += strconv.Itoa(n) + " "
	}
	if h, ok := d[name]; used <= budget && (!ok || h.Used > used) {
		d[name] = api.Hypothesis{Used: used, Plant: p}
	}
}

// sorted returns the belief, and the error of a tick.
func (d reading) sorted(budget int) (api.Belief, api.Errno) {
	switch {
	case len(d) == 0:
		return api.Belief{}, api.ErrNone
	case len(d) > api.MaxHypotheses:
		return api.Belief{}, api.ErrLimit
	}
	b := api.Belief{Budget: budget}
	for _, h := range d {
		b.L = append(b.L, h)
	}
	slices.SortFunc(b.L, func(a, b api.Hypothesis) int { return slices.Compare(list(a.Plant), list(b.Plant)) })
	return b, api.OK
}

// tickOf returns the belief after a tick, read from the terms and P13.2: all sets of faults at windows with a bag, each with a step of its own.
func tickOf(l api.Layout, b api.Belief, commands []int, plates []api.Plate, reports []api.Report) (api.Belief, api.Errno) {
	d := reading{}
	for _, h := range b.L {
		for _, faults := range sets(movements(h.Plant), b.Budget-h.Used) {
			p, _, e := plant.Step(l, h.Plant, commands, faults)
			if e != api.OK {
				return api.Belief{}, e
			}
			used, possible := h.Used+len(faults), true
			for _, r := range reports {
				n, ok := sensor.Cost(l, p, plates, r)
				used, possible = used+n, possible && ok
			}
			if possible {
				d.add(p, used, b.Budget)
			}
		}
	}
	return d.sorted(b.Budget)
}

// equal compares two beliefs without the function of the package.
func equal(a, b api.Belief) bool {
	return a.Budget == b.Budget && slices.EqualFunc(a.L, b.L, func(a, b api.Hypothesis) bool {
		return a.Used == b.Used && slices.EqualFunc(a.Plant.Slots, b.Plant.Slots, slices.Equal) && slices.EqualFunc(a.Plant.Bins, b.Plant.Bins, slices.Equal)
	})
}

// truth is a plant as it really is, with what is believed about it.
type truth struct {
	l      api.Layout
	plates []api.Plate
	plant  api.Plant
	used   int // the faults that have happened
	bags   int
	belief api.Belief
}

// begin returns the truth about a plant without bags.
func begin(t *testing.T, l api.Layout, budget int) *truth {
	t.Helper()
	p, e := plant.New(l)
	b, f := New(l, budget)
	if e != api.OK || f != api.OK {
		t.Fatal(l, e, f)
	}
	return &truth{l: l, plates: run(t), plant: p, belief: b}
}

// enter puts a new bag on a node, if this is possible.
func (x *truth) enter(t *testing.T, node int) {
	t.Helper()
	bag := x.bags + 1
	p, e := plant.Enter(x.l, x.plant, node, bag)
	d := reading{}
	for _, h := range x.belief.L {
		if q, e := plant.Enter(x.l, h.Plant, node, bag); e == api.OK {
			d.add(q, h.Used, x.belief.Budget)
		}
	}
	want, none := d.sorted(x.belief.Budget)
	b, f := Enter(x.l, x.belief, node, bag)
	switch {
	case e == api.ErrRange || e == api.ErrKind:
		refuse(t, b, f, e)
	case !equal(b, want) || f != none:
		t.Fatal(x.l, x.belief, node, bag, b, f)
	case e == api.OK:
		x.plant, x.belief, x.bags = p, b, bag
	}
}

// faults returns some of the faults that can happen, at most so many, and seldom any.
func (r *random) faults(all []api.Fault, most int) []api.Fault {
	var faults []api.Fault
	for len(all) > 0 && len(faults) < most && r.below(4) == 0 {
		f := all[r.below(len(all))]
		if !slices.ContainsFunc(faults, func(o api.Fault) bool { return clash(o, f) }) {
			faults = append(faults, f)
		}
	}
	return faults
}

// glitches returns all device faults that are possible for a plant.
func glitches(l api.Layout, p api.Plant, plates []api.Plate) []api.Fault {
	var faults []api.Fault
	for i := range l.Devices {
		for _, kind := range []int{api.FaultMiss, api.FaultGhost, api.FaultUnread, api.FaultWrong} {
			for k := range 10 {
				f := api.Fault{Kind: kind, Node: i, Window: k}
				if _, e := sensor.Observe(l, p, plates, []api.Fault{f}); e == api.OK {
					faults = append(faults, f)
				}
			}
		}
	}
	return faults
}

// tick lets a tick happen, with some faults within the budget, and holds the belief after it against a second reading and the truth. It returns the error.
func (x *truth) tick(t *testing.T, r *random, told bool) api.Errno {
	t.Helper()
	commands := r.commands(x.l, x.plant)
	moves := r.faults(movements(x.plant), x.belief.Budget-x.used)
	after, _, e := plant.Step(x.l, x.plant, commands, moves)
	if e != api.OK {
		t.Fatal(x.l, x.plant, commands, moves, e)
	}
	sum := x.used + len(moves)
	var reports []api.Report
	var b api.Belief
	if told {
		wrong := r.faults(glitches(x.l, after, x.plates), x.belief.Budget-sum)
		if reports, e = sensor.Observe(x.l, after, x.plates, wrong); e != api.OK {
			t.Fatal(x.l, after, wrong, e)
		}
		sum += len(wrong)
		b, e = Step(x.l, x.belief, commands, x.plates, reports)
	} else {
		b, e = Blind(x.l, x.belief, commands)
	}
	if want, f := tickOf(x.l, x.belief, commands, x.plates, reports); e != f || !equal(b, want) {
		t.Fatalf("%v\nbefore %s\ncommands %v, reports %v\nafter %s, %d\nnot %s, %d", x.l, textOf(x.belief), commands, reports, textOf(b), e, textOf(want), f)
	}
	if e == api.OK {
		if n, ok := Has(b, after); !ok || n > sum { // P13.6
			t.Fatal(x.l, x.belief, commands, reports, b, "without", after, n, ok, sum)
		}
		x.plant, x.belief, x.used = after, b, sum
	} else if e != api.ErrLimit {
		t.Fatal("the truth is left out:", x.l, x.belief, commands, reports, e)
	}
	return e
}

func TestManyTicks(t *testing.T) { // P13.2, P13.3, P13.6
	r, hypotheses, limits, faults := random(1), 0, 0, 0
	for k := range 240 {
		for _, plan := range plans(t) {
			x := begin(t, r.shuffled(plan), k%(api.MaxBudget+1))
			for range 15 {
				for range 2 {
					x.enter(t, r.below(len(x.l.Nodes)))
				}
				if x.tick(t, &r, r.below(5) > 0) != api.OK {
					limits++
					break
				}
				hypotheses += len(x.belief.L)
			}
			faults += x.used
		}
	}
	if hypotheses < 30000 || limits < 30 || faults < 600 {
		t.Error("seldom:", hypotheses, limits, faults)
	}
}

// plant returns a plant in which no Loop is full; of each number of windows, about full of eight have bags.
func (r *random) plant(l api.Layout, full int) api.Plant {
	p := api.Plant{Slots: make([][]int, len(l.Nodes)), Bins: make([][]int, len(l.Nodes))}
	bag := 0
	for i, n := range l.Nodes {
		p.Slots[i] = make([]int, n.Length)
		for k := range p.Slots[i] {
			if r.below(8) < full {
				bag++
				p.Slots[i][k] = bag
			}
		}
		switch {
		case n.Kind == api.NodeLoop:
			p.Slots[i][r.below(n.Length)] = 0
		case n.Length == 0:
			for range r.below(3) {
				bag++
				p.Bins[i] = append(p.Bins[i], bag)
			}
		}
	}
	return p
}

func TestManyPlants(t *testing.T) { // P13.2: beliefs with any plants
	r, count := random(2), map[api.Errno]int{}
	for k := range 700 {
		for _, plan := range plans(t) {
			l := r.shuffled(plan)
			d, budget := reading{}, min(r.below(4), api.MaxBudget)
			for range 1 + r.below(3) {
				d.add(r.plant(l, k%7), r.below(2)*r.below(budget+1), budget)
			}
			b, _ := d.sorted(budget)
			commands := r.commands(l, b.L[0].Plant)
			want, f := tickOf(l, b, commands, nil, nil)
			if got, e := Blind(l, b, commands); e != f || !equal(got, want) {
				t.Fatalf("%v\nbefore %s\ncommands %v\nafter %s, %d\nnot %s, %d", l, textOf(b), commands, textOf(got), e, textOf(want), f)
			}
			count[f]++
			h := b.L[r.below(len(b.L))]
			after, _, _ := plant.Step(l, h.Plant, commands, r.faults(movements(h.Plant), api.MaxBudget))
			reports, _ := sensor.Observe(l, after, run(t), r.faults(glitches(l, after, run(t)), api.MaxBudget))
			want, f = tickOf(l, b, commands, run(t), reports)
			if got, e := Step(l, b, commands, run(t), reports); e != f || !equal(got, want) {
				t.Fatalf("%v\nbefore %s\ncommands %v, reports %v\nafter %s, %d\nnot %s, %d", l, textOf(b), commands, reports, textOf(got), e, textOf(want), f)
			}
			count[100+f]++
		}
	}
	if count[api.OK] < 2000 || count[api.ErrLimit] < 100 || count[100] < 2000 || count[100+api.ErrNone] < 100 || count[100+api.ErrLimit] < 20 {
		t.Error("seldom:", count)
	}
}

// scripts returns the plants that some script of faults explains, given those before a tick: all sets of movement faults, each with all sets of device faults.
func scripts(l api.Layout, before reading, commands []int, plates []api.Plate, reports []api.Report, budget int) reading {
	after := reading{}
	for _, h := range before {
		for _, moves := range sets(movements(h.Plant), budget-h.Used) {
			p, _, _ := plant.Step(l, h.Plant, commands, moves)
			used := h.Used + len(moves)
			for _, wrong := range sets(glitches(l, p, plates), budget-used) {
				if got, e := sensor.Observe(l, p, plates, wrong); e == api.OK && slices.Equal(got, reports) {
					after.add(p, used+len(wrong), budget)
				}
			}
		}
	}
	return after
}

func TestScripts(t *testing.T) { // W4: the hypotheses are exactly the plants that some script of faults explains
	r, most := random(3), 0
	l := parse(t, "entry A 3 0 > L", "loop L 4 0 > L M", "entry B 3 0 > L", "manual M 0", "scanner L 1", "photocell B 2")
	for k := range 150 {
		x := begin(t, l, k%(api.MaxBudget+1))
		explained := reading{}
		explained.add(x.plant, 0, 0)
		for range 8 {
			if node := 2 * r.below(2); x.plant.Slots[node][0] == 0 && x.bags < 4 {
				x.enter(t, node)
				entered := reading{}
				for _, h := range explained {
					if p, e := plant.Enter(l, h.Plant, node, x.bags); e == api.OK {
						entered.add(p, h.Used, x.belief.Budget)
					}
				}
				explained = entered
			}
			commands := []int{-r.below(2), r.below(2), 0, 0}
			moves := r.faults(movements(x.plant), x.belief.Budget-x.used)
			p, _, _ := plant.Step(l, x.plant, commands, moves)
			wrong := r.faults(glitches(l, p, x.plates), x.belief.Budget-x.used-len(moves))
			reports, e := sensor.Observe(l, p, x.plates, wrong)
			if e != api.OK {
				t.Fatal(p, wrong, e)
			}
			x.plant, x.used = p, x.used+len(moves)+len(wrong)
			explained = scripts(l, explained, commands, x.plates, reports, x.belief.Budget)
			want, _ := explained.sorted(x.belief.Budget)
			if x.belief, e = Step(l, x.belief, commands, x.plates, reports); e != api.OK || !equal(x.belief, want) {
				t.Fatal(textOf(x.belief), e, textOf(want))
			}
			if n, ok := Has(x.belief, x.plant); !ok || n > x.used { // P13.6
				t.Fatal(x.belief, x.plant, n, ok)
			}
			most = max(most, len(x.belief.L))
		}
	}
	if most < 10 {
		t.Error("seldom:", most)
	}
}
