package infer

import (
	"maps"
	"slices"

	"baggage/api"
	"baggage/layout"
	"baggage/plant"
	"baggage/sensor"
	"baggage/strip"
	"baggage/traffic"
)

// found are hypotheses that are being collected, each under the key of its plant.
type found map[string]api.Hypothesis

// add keeps a plant that is the caller's own, with the lesser Used if it is there already.
func (f found) add(used int, p api.Plant) {
	k := key(p)
	if h, ok := f[k]; !ok || used < h.Used {
		f[k] = api.Hypothesis{Used: used, Plant: p}
	}
}

// key returns a text that is the same for no two plants of a layout, and by which they are in their order. Each number has a byte: none is greater than MaxBags.
func key(p api.Plant) string {
	var k []byte
	for _, windows := range p.Slots {
		k = appendNumbers(k, windows...)
	}
	for _, bags := range p.Bins {
		k = appendNumbers(appendNumbers(k, len(bags)), bags...)
	}
	return string(k)
}

func appendNumbers(k []byte, numbers ...int) []byte {
	for _, n := range numbers {
		k = append(k, byte(n))
	}
	return k
}

// belief returns the belief with what was found, unless this is too much.
func (f found) belief(budget int) (api.Belief, api.Errno) {
	if len(f) > api.MaxHypotheses {
		return api.Belief{}, api.ErrLimit
	}
	b := api.Belief{Budget: budget}
	for _, k := range slices.Sorted(maps.Keys(f)) {
		b.L = append(b.L, f[k])
	}
	return b, api.OK
}

// tick is what all hypotheses of a belief have in common in a tick, and what was found after it.
type tick struct {
	layout   api.Layout
	commands []int
	plates   []api.Plate
	reports  []api.Report
	budget   int
	next     found
}

// validate returns the error of the commands. It lets traffic look at them with a plant without windows, since a belief may have none.
func (t *tick) validate() api.Errno {
	_, e := traffic.Flows(t.layout, api.Plant{}, t.commands, nil)
	return e
}

// after returns the belief after the tick, where b is the one before it.
func (t *tick) after(b api.Belief) (api.Belief, api.Errno) {
	t.budget, t.next = b.Budget, found{}
	for _, h := range b.L {
		if fits(t.layout, h.Plant) {
			t.spread(h, effective(h.Plant))
		}
	}
	next, e := t.next.belief(b.Budget)
	if e != api.OK {
		return next, e
	}
	return unlessNone(next)
}

// fits reports whether p has the windows of l. In beliefs of other layouts there could be more sets of faults than can ever be looked at.
func fits(l api.Layout, p api.Plant) bool {
	return layout.Validate(l) == api.OK && slices.EqualFunc(l.Nodes, p.Slots, func(n api.Node, windows []int) bool { return n.Length == len(windows) })
}

// effective returns the movement faults that can make a difference to a tick of p, in the order of their windows. The others lead to no plant that fewer faults do not lead to: what a bag does depends on no fault but its own, except that bags that stick in last windows leave the way to others.
func effective(p api.Plant) []api.Fault {
	var faults []api.Fault
	for node, windows := range p.Slots {
		right, _ := strip.Advance(windows, nil, true)
		for k := range windows {
			kinds := make([]int, len(windows))
			for _, kind := range []int{api.FaultStick, api.FaultSlide} {
				kinds[k] = kind
				if moved, _ := strip.Advance(windows, kinds, true); !slices.Equal(moved, right) {
					faults = append(faults, api.Fault{Kind: kind, Node: node, Window: k})
				}
			}
		}
	}
	return faults
}

// spread finds the plants after the tick of h with some faults, and with these and each set of further ones that the budget allows. It ends when there are too many plants, since they never become fewer. Budgets of beliefs that are not of this package may have any value.
func (t *tick) spread(h api.Hypothesis, further []api.Fault, faults ...api.Fault) {
	used := h.Used + len(faults)
	if used > t.budget || len(faults) > api.MaxBudget || len(t.next) > api.MaxHypotheses {
		return
	}
	p, _, e := plant.Step(t.layout, h.Plant, t.commands, faults)
	if e != api.OK { // two faults in one window
		return
	}
	if n, ok := t.cost(p, t.budget-used); ok {
		t.next.add(used+n, p)
	}
	for i, f := range further {
		t.spread(h, further[i+1:], append(faults, f)...)
	}
}

// cost returns how many device faults explain the reports after the tick, if this is p then, and whether they are possible and at most so many.
func (t *tick) cost(p api.Plant, most int) (int, bool) {
	sum := 0
	for _, r := range t.reports {
		n, ok := sensor.Cost(t.layout, p, t.plates, r)
		sum += n
		if !ok || sum > most {
			return 0, false
		}
	}
	return sum, true
}
