package control

import (
	"slices"
	"testing"

	"baggage/api"
	"baggage/infer"
	"baggage/layout"
	"baggage/plant"
	"baggage/plate"
	"baggage/route"
	"baggage/sensor"
	"baggage/traffic"
)

// random is a sequence of numbers that looks random.
type random uint32

// below returns a number from 0 to n-1.
func (r *random) below(n int) int {
	*r = *r*1664525 + 1013904223
	return int(*r>>8) % n
}

// plans returns layouts with nodes of all kinds.
func plans(t *testing.T) []api.Layout {
	t.Helper()
	return []api.Layout{
		plan(t),
		parse(t, "entry E 1 0 > S", "entry F 2 0 > T", "screen S 2 0 > G", "screen T 1 0 > G", "gate G 1 0 > M C", "chute C 1", "manual M 0"),
		parse(t, "entry E 1 0 > D", "entry F 1 0 > D", "diverter D 2 0 > B L", "loop L 3 0 > L G", "belt B 2 0 > G", "gate G 1 0 > H K", "gate H 1 0 > M K", "loop K 2 1 > K V", "diverter V 1 1 > C W", "diverter W 1 1 > C P", "store P 1 > C", "chute C 1", "manual M 0"),
		parse(t, "entry E 2 0 > S", "screen S 1 0 > G", "gate G 1 0 > L V", "loop L 3 0 > L H", "gate H 2 0 > M P", "manual M 0", "diverter V 1 1 > P C", "store P 1 > K", "loop K 3 1 > K C", "chute C 1"),
	}
}

// shuffled returns a layout with other indices for its nodes, other lengths, and some devices.
func (r *random) shuffled(l api.Layout) api.Layout {
	var at []int // the new index of each node
	for i := range l.Nodes {
		at = slices.Insert(at, r.below(i+1), i)
	}
	s := api.Layout{Nodes: make([]api.Node, len(l.Nodes))}
	for i, n := range l.Nodes {
		n.Exits = slices.Clone(n.Exits)
		for k, to := range n.Exits {
			n.Exits[k] = at[to]
		}
		switch {
		case n.Kind == api.NodeLoop:
			n.Length = 2 + r.below(2)
		case n.Length > 0:
			n.Length = 1 + r.below(3)
		}
		s.Nodes[at[i]] = n
	}
	for range 3 + r.below(10) {
		d := api.Device{Kind: api.DevPhotocell + r.below(2), Node: r.below(len(s.Nodes))}
		if length := s.Nodes[d.Node].Length; length > 0 {
			d.Window = r.below(length)
			if !slices.Contains(s.Devices, d) {
				s.Devices = append(s.Devices, d)
			}
		}
	}
	return s
}

// truths returns a list of up to n truths, most of which are true.
func (r *random) truths(n int) []bool {
	list := make([]bool, r.below(n+1))
	for i := range list {
		list[i] = r.below(5) > 0
	}
	return list
}

// given returns what Decide gets for a layout and so many bags.
func (r *random) given(l api.Layout, bags int) given {
	g := given{cleared: r.truths(bags), resolved: r.truths(bags), broken: r.truths(len(l.Nodes))}
	for i := range g.broken {
		g.broken[i] = g.broken[i] && r.below(10) == 0
	}
	var bins []int
	for i, n := range l.Nodes {
		if layout.IsBin(n) {
			bins = append(bins, i)
		}
	}
	one := bins[r.below(len(bins))] // hypotheses often agree
	for range bags - r.below(2)*r.below(bags) {
		switch r.below(6) {
		case 0:
			g.targets = append(g.targets, bins[r.below(len(bins))])
		case 1:
			g.targets = append(g.targets, r.below(len(l.Nodes)+2)-1)
		default:
			g.targets = append(g.targets, one)
		}
	}
	return g
}

// isTrue reads a list of truths about bags.
func isTrue(list []bool, bag int) bool {
	for i, v := range list {
		if i == bag-1 {
			return v
		}
	}
	return false
}

// over returns the length of a shortest way from a node to a target by an exit, without the windows of the node, or -1.
func (g given) over(l api.Layout, node, exit, target int) int {
	to := l.Nodes[node].Exits[exit]
	if to == node || layout.IsBin(l.Nodes[to]) && to != target || node < len(g.broken) && g.broken[node] {
		return -1
	}
	return route.Distance(l, g.broken, to, target)
}

// wants is a second reading of what a bag wants.
func (g given) wants(l api.Layout, node, bag int) int {
	if l.Nodes[node].Kind == api.NodeGate && !isTrue(g.cleared, bag) || bag > len(g.targets) {
		return 0
	}
	target := g.targets[bag-1]
	straight, turning := g.over(l, node, 0, target), g.over(l, node, 1, target)
	if turning >= 0 && (straight < 0 || turning < straight) {
		return 1
	}
	return 0
}

// last returns the bags other than 0 that the hypotheses have in the last window of a node.
func last(l api.Layout, b api.Belief, node int) map[int]bool {
	bags := map[int]bool{}
	for _, h := range b.L {
		if n := l.Nodes[node].Length; n > 0 && h.Plant.Slots[node][n-1] != 0 {
			bags[h.Plant.Slots[node][n-1]] = true
		}
	}
	return bags
}

// read is a second reading of P14.1.
func (g given) read(l api.Layout, b api.Belief) []int {
	var commands []int
	for node, n := range l.Nodes {
		command, turning, held := 0, 0, 0
		bags := last(l, b, node)
		for bag := range bags {
			if len(n.Exits) == 2 && g.wants(l, node, bag) == 1 {
				turning++
			}
			if n.Kind == api.NodeScreen && !isTrue(g.resolved, bag) {
				held++
			}
		}
		if held > 0 {
			command = -1
		}
		if turning > 0 && turning == len(bags) {
			command = 1
		}
		commands = append(commands, command)
	}
	return commands
}

// plant returns a plant in which no Loop is full; of each number of last windows, about full of eight have one of a few bags.
func (r *random) plant(t *testing.T, l api.Layout, full int) api.Plant {
	t.Helper()
	p, e := plant.New(l)
	if e != api.OK {
		t.Fatal(l, e)
	}
	bags := []int{1, 2, 3, 4, 5, 6, 7, 8, 9, 10, 11, 12, 13, 14, 15, 16, 17, 18, 19, 20}
	for i, n := range l.Nodes {
		for k := range n.Length {
			if r.below(8) < full && (n.Kind != api.NodeLoop || k > 0) {
				at := r.below(min(len(bags), 5))
				p.Slots[i][k] = bags[at]
				bags = slices.Delete(bags, at, at+1)
			}
		}
		if layout.IsBin(n) && r.below(3) == 0 {
			p.Bins[i] = bags[:1]
			bags = bags[1:]
		}
		if len(bags) < 9 {
			break
		}
	}
	return p
}

func TestManyBeliefs(t *testing.T) { // P14.1
	r, count := random(1), map[int]int{}
	for k := range 3000 {
		for _, l := range plans(t) {
			l = r.shuffled(l)
			var plants []api.Plant
			for range r.below(4) {
				plants = append(plants, r.plant(t, l, 1+k%7))
			}
			b, g := belief(plants...), r.given(l, 20)
			got, want := g.decide(l, b), g.read(l, b)
			if !slices.Equal(got, want) {
				t.Fatalf("%v for %v, %v with %v, not %v", got, l, b.L, g, want)
			}
			for node, c := range got {
				count[10*l.Nodes[node].Kind+c]++
			}
			p, _ := plant.New(l)
			if _, e := traffic.Flows(l, p, got, nil); e != api.OK { // they are commands of the layout
				t.Fatal(l, got, e)
			}
		}
	}
	for _, kind := range []int{10*api.NodeDiverter + 1, 10*api.NodeLoop + 1, 10*api.NodeGate + 1, 10*api.NodeScreen - 1} {
		if count[kind] < 500 {
			t.Error("seldom:", kind, count)
		}
	}
}

func TestFewerHypotheses(t *testing.T) { // the consequence of P14.1: more hypotheses never turn an exit from 0 to 1, unless there were no candidates
	r, changed := random(2), 0
	for k := range 2000 {
		for _, l := range plans(t) {
			l = r.shuffled(l)
			b, g := belief(r.plant(t, l, 1+k%7), r.plant(t, l, 1+k%7)), r.given(l, 20)
			b.L = append(b.L, b.L[0])
			more := g.decide(l, b)
			for i, h := range b.L {
				one := api.Belief{Budget: b.Budget, L: []api.Hypothesis{h}}
				for node, c := range g.decide(l, one) {
					if c == 0 && more[node] == 1 && len(last(l, one, node)) > 0 || c == -1 && more[node] != -1 {
						t.Fatal(l, b.L, i, g, node)
					}
					if c != more[node] {
						changed++
					}
				}
			}
		}
	}
	if changed < 2000 {
		t.Error("seldom:", changed)
	}
}

// movements returns all movement faults at windows with a bag.
func movements(p api.Plant) []api.Fault {
	var faults []api.Fault
	for i, windows := range p.Slots {
		for k, bag := range windows {
			if bag != 0 {
				faults = append(faults, api.Fault{Kind: api.FaultStick, Node: i, Window: k}, api.Fault{Kind: api.FaultSlide, Node: i, Window: k})
			}
		}
	}
	return faults
}

// clash reports whether two faults are those of the same window or device.
func clash(a, b api.Fault) bool {
	return a.Node == b.Node && (a.Window == b.Window || a.Kind >= api.FaultMiss)
}

// faults returns some of the faults that can happen, at most so many.
func (r *random) faults(all []api.Fault, most int) []api.Fault {
	var faults []api.Fault
	for len(all) > 0 && len(faults) < most && r.below(4) == 0 {
		f := all[r.below(len(all))]
		if !slices.ContainsFunc(faults, func(o api.Fault) bool { return clash(o, f) }) {
			faults = append(faults, f)
		}
	}
	return faults
}

// check checks P14.2 for the true plant p, which is among the hypotheses, and a tick with some faults. It returns the plant after the tick and the number of bags that came through a Gate or left a Screen.
func (g given) check(t *testing.T, l api.Layout, b api.Belief, p api.Plant, commands []int, faults []api.Fault) (api.Plant, int) {
	t.Helper()
	after, passages, e := plant.Step(l, p, commands, faults)
	if e != api.OK {
		t.Fatal(l, commands, faults, e)
	}
	count := 0
	for _, x := range passages {
		n := l.Nodes[x.From]
		through, out := n.Kind == api.NodeGate && x.To == n.Exits[1], n.Kind == api.NodeScreen
		if through || out {
			count++
		}
		if through && !isTrue(g.cleared, x.Bag) || out && !isTrue(g.resolved, x.Bag) {
			t.Fatal("the bag passes:", l, b.L, p, g, commands, faults, x)
		}
		bags := last(l, b, x.From)
		if agreed := len(bags) == 1 && len(infer.At(b, x.From)) == 1; agreed && len(n.Exits) == 2 && x.To != n.Exits[g.wants(l, x.From, x.Bag)] {
			t.Fatal("the bag does not get its exit:", l, b.L, p, g, commands, faults, x)
		}
	}
	for node, n := range l.Nodes {
		if at := infer.At(b, node); len(n.Exits) == 2 && len(at) == 1 && at[0] != 0 && commands[node] != g.wants(l, node, at[0]) {
			t.Fatal("the bag does not get its exit:", l, b.L, g, commands, node)
		}
	}
	return after, count
}

func TestEachHypothesisAsTheTruth(t *testing.T) { // P14.2: whatever faults there are
	r, passes := random(3), 0
	for k := range 500 {
		for _, l := range plans(t) {
			l = r.shuffled(l)
			var plants []api.Plant
			for range 1 + r.below(3) {
				plants = append(plants, r.plant(t, l, 1+k%7))
			}
			b, g := belief(plants...), r.given(l, 20)
			commands := g.decide(l, b)
			for _, p := range plants {
				_, n := g.check(t, l, b, p, commands, nil)
				passes += n
				for _, f := range movements(p) {
					_, n := g.check(t, l, b, p, commands, []api.Fault{f})
					passes += n
				}
				g.check(t, l, b, p, commands, r.faults(movements(p), api.MaxFaults))
			}
		}
	}
	if passes < 5000 {
		t.Error("seldom:", passes)
	}
}

// glitches returns all device faults that are possible for a plant.
func glitches(l api.Layout, p api.Plant, plates []api.Plate) []api.Fault {
	var faults []api.Fault
	for i := range l.Devices {
		for _, kind := range []int{api.FaultMiss, api.FaultGhost, api.FaultUnread, api.FaultWrong} {
			f := api.Fault{Kind: kind, Node: i}
			if kind >= api.FaultUnread {
				f.Window = 9 // the digit in which the plates differ
			}
			if _, e := sensor.Observe(l, p, plates, []api.Fault{f}); e == api.OK {
				faults = append(faults, f)
			}
		}
	}
	return faults
}

// story lets bags enter a plant and move by the commands of Decide, with faults of movements and devices within a budget, and checks P14.2 in each tick. It returns the numbers of checked passages and of ticks in which several plants were possible.
func (r *random) story(t *testing.T, l api.Layout, budget int) (passes, doubts int) {
	t.Helper()
	plates, e := plate.Run(api.Plate{Airline: 117, Serial: 1}, api.MaxBags)
	p, f := plant.New(l)
	b, g := infer.New(l, budget)
	if e != api.OK || f != api.OK || g != api.OK {
		t.Fatal(e, f, g)
	}
	x, bags := r.given(l, 20), 0
	for range 25 {
		for node, n := range l.Nodes {
			if n.Kind == api.NodeEntry && bags < 20 && r.below(2) == 0 {
				if q, e := plant.Enter(l, p, node, bags+1); e == api.OK {
					p, bags = q, bags+1
					if b, e = infer.Enter(l, b, node, bags); e != api.OK {
						t.Fatal(l, b, node, bags, e)
					}
				}
			}
		}
		if r.below(4) == 0 { // verdicts and breakdowns
			x = r.given(l, 20)
		}
		commands := x.decide(l, b)
		moves := r.faults(movements(p), budget)
		after, n := x.check(t, l, b, p, commands, moves)
		wrong := r.faults(glitches(l, after, plates), budget-len(moves))
		reports, e := sensor.Observe(l, after, plates, wrong)
		if e != api.OK {
			t.Fatal(l, after, wrong, e)
		}
		next, e := infer.Step(l, b, commands, plates, reports)
		if e != api.OK { // there are too many plants
			return passes, doubts
		}
		if _, ok := infer.Has(next, after); !ok {
			t.Fatal("the truth is left out:", l, b.L, after, commands, reports)
		}
		p, b, budget, passes = after, next, budget-len(moves)-len(wrong), passes+n
		if len(b.L) > 1 {
			doubts++
		}
	}
	return passes, doubts
}

func TestStories(t *testing.T) { // P14.2: while all happens as in a real plant
	r, passes, doubts := random(4), 0, 0
	for k := range 200 {
		for _, l := range plans(t) {
			n, d := r.story(t, r.shuffled(l), k%(api.MaxBudget+1))
			passes, doubts = passes+n, doubts+d
		}
	}
	if passes < 1500 || doubts < 1500 {
		t.Error("seldom:", passes, doubts)
	}
}
