package sensor

import (
	"math"
	"slices"
	"strconv"
	"strings"
	"testing"

	"baggage/api"
	"baggage/plant"
	"baggage/plate"
)

// random is a sequence of numbers that looks random.
type random uint32

// below returns a number from 0 to n-1.
func (r *random) below(n int) int {
	*r = *r*1664525 + 1013904223
	return int(*r>>8) % n
}

// layout returns a chain of belts with some devices.
func (r *random) layout() api.Layout {
	l := api.Layout{Nodes: []api.Node{{Name: "M", Kind: api.NodeManual}, {Name: "E", Kind: api.NodeEntry, Length: 1 + r.below(4), Exits: []int{2}}}}
	for len(l.Nodes) < 5 {
		i := len(l.Nodes)
		l.Nodes = append(l.Nodes, api.Node{Name: "B" + strconv.Itoa(i), Kind: api.NodeBelt, Length: 1 + r.below(4), Exits: []int{(i + 1) % 5}})
	}
	for range 30 {
		node := 1 + r.below(4)
		d := api.Device{Kind: api.DevPhotocell + r.below(2), Node: node, Window: r.below(l.Nodes[node].Length)}
		if len(l.Devices) < api.MaxDevices && !slices.Contains(l.Devices, d) {
			l.Devices = append(l.Devices, d)
		}
	}
	return l
}

// plant returns a plant with bags in about full of eight windows, and their plates, which differ in a few digits.
func (r *random) plant(l api.Layout, full int) (api.Plant, []api.Plate) {
	p, plates := api.Plant{Slots: make([][]int, len(l.Nodes)), Bins: make([][]int, len(l.Nodes))}, []api.Plate{}
	for i, n := range l.Nodes {
		p.Slots[i] = make([]int, n.Length)
		for k := range p.Slots[i] {
			if r.below(8) < full {
				plates = append(plates, api.Plate{Lead: r.below(2), Airline: 998 + r.below(2), Serial: 999990 + r.below(10)})
				p.Slots[i][k] = len(plates)
			}
		}
	}
	return p, plates
}

// faults returns device faults that are possible, of different devices.
func (r *random) faults(l api.Layout, p api.Plant) []api.Fault {
	var faults []api.Fault
	for range r.below(api.MaxFaults + 1) {
		i := r.below(len(l.Devices))
		d := l.Devices[i]
		f := api.Fault{Kind: miss, Node: i}
		switch seen := p.Slots[d.Node][d.Window] != 0; {
		case !seen && d.Kind == api.DevScanner, slices.ContainsFunc(faults, func(o api.Fault) bool { return o.Node == i }):
			continue
		case !seen:
			f.Kind = ghost
		case d.Kind == api.DevScanner && r.below(4) > 0:
			f.Kind, f.Window = unseen+r.below(2), r.below(10)
		}
		faults = append(faults, f)
	}
	return faults
}

// textAt returns the text of the plate of the bag that a device sees, and whether it sees one.
func textAt(l api.Layout, p api.Plant, plates []api.Plate, i int) (string, bool) {
	bag := p.Slots[l.Devices[i].Node][l.Devices[i].Window]
	if bag == 0 {
		return "", false
	}
	return plate.Format(plates[bag-1]), true
}

// reported returns what a device reports with the faults of a list, read from the chapter device by device.
func reported(l api.Layout, p api.Plant, plates []api.Plate, faults []api.Fault, i int) api.Report {
	text, seen := textAt(l, p, plates, i)
	if l.Devices[i].Kind == api.DevPhotocell {
		text = ""
	}
	for _, f := range faults {
		if f.Node != i {
			continue
		}
		digits := []byte(text)
		switch f.Kind {
		case miss, ghost:
			digits, seen = nil, !seen
		case unseen:
			digits[f.Window] = '?'
		case wrong:
			digits[f.Window] = "1234567890"[digits[f.Window]-'0']
		}
		text = string(digits)
	}
	return api.Report{Device: i, Seen: seen, Read: text}
}

// explained returns the cost of a report of a device, or -1, by counting the places in which it differs.
func explained(l api.Layout, p api.Plant, plates []api.Plate, r api.Report) int {
	text, seen := textAt(l, p, plates, r.Device)
	photocell := l.Devices[r.Device].Kind == api.DevPhotocell
	switch {
	case !r.Seen && r.Read == "" && !seen, photocell && r.Seen && r.Read == "" && seen:
		return 0
	case !r.Seen && r.Read == "" && seen, photocell && r.Seen && r.Read == "" && !seen:
		return 1
	case !r.Seen, photocell, !seen, len(r.Read) != len(text):
		return -1
	}
	n := 0
	for k := range len(text) {
		if r.Read[k] == text[k] {
			continue
		}
		n++
		if r.Read[k] != '?' && r.Read[k] != "1234567890"[text[k]-'0'] {
			return -1
		}
	}
	if n > 1 {
		return -1
	}
	return n
}

func TestManyPlants(t *testing.T) { // P12.1, P12.2, the consequences
	r := random(1)
	for k := range 20000 {
		l := r.layout()
		if _, e := plant.New(l); e != api.OK {
			t.Fatal(l, e)
		}
		p, plates := r.plant(l, k%9)
		faults := r.faults(l, p)
		reports, e := Observe(l, p, plates, faults)
		if e != api.OK || len(reports) != len(l.Devices) {
			t.Fatal(l, p, faults, reports, e)
		}
		sum := 0
		for i, got := range reports {
			n, ok := Cost(l, p, plates, got)
			if got != reported(l, p, plates, faults, i) || !ok || n < 0 || n > 1 {
				t.Fatal(l, p, plates, faults, got, n, ok)
			}
			sum += n
		}
		if sum != len(faults) { // each fault changes its report
			t.Fatal(l, p, faults, reports, sum)
		}
	}
}

func TestReportsOfOtherPlants(t *testing.T) { // P12.2: the reports of a plant in another one
	r, count := random(2), map[int]int{}
	for k := range 20000 {
		l := r.layout()
		p, plates := r.plant(l, k%9)
		q, others := r.plant(l, 6)
		reports, e := Observe(l, q, others, r.faults(l, q))
		if e != api.OK {
			t.Fatal(l, q, e)
		}
		for _, report := range reports {
			want := explained(l, p, plates, report)
			cost(t, l, p, plates, report, want)
			count[want]++
		}
	}
	if count[-1] < 1000 || count[0] < 1000 || count[1] < 1000 {
		t.Error("seldom:", count)
	}
}

func TestEveryReport(t *testing.T) { // P12.2: every report is that of some fault, or has no cost
	l, p, plates := four(t)
	text := "0189000999"
	reads := []string{text, "", "?", "0", "??????????", "0189000999?", "018900099", "5001000000"}
	for k := range 10 {
		for _, c := range []byte("?0123456789") {
			if c != text[k] {
				reads = append(reads, text[:k]+string([]byte{c})+text[k+1:])
			}
		}
	}
	for device := range l.Devices {
		faults := []api.Fault{{Kind: miss, Node: device}, {Kind: ghost, Node: device}}
		for k := range 10 {
			faults = append(faults, fault(unseen, device, k), fault(wrong, device, k))
		}
		right, _ := Observe(l, p, plates, nil)
		costs := map[api.Report]int{right[device]: 0}
		for _, f := range faults {
			if reports, e := Observe(l, p, plates, []api.Fault{f}); e == api.OK {
				costs[reports[device]] = 1
			}
		}
		for _, read := range reads {
			for _, seen := range []bool{false, true} {
				r := api.Report{Device: device, Seen: seen, Read: read}
				want, ok := costs[r]
				if !ok {
					want = -1
				}
				cost(t, l, p, plates, r, want)
				delete(costs, r)
			}
		}
		if len(costs) > 0 {
			t.Error("without a cost:", costs)
		}
	}
}

func TestWithPlants(t *testing.T) { // P12.1: the plants of chapter 11 have the form that is asked for
	l := parse(t, "entry A 2 0 > G", "gate G 1 0 > M C", "chute C 1", "manual M 0", "scanner G 0", "photocell A 1")
	p, e := plant.New(l)
	if e != api.OK {
		t.Fatal(e)
	}
	if p, e = plant.Enter(l, p, 0, 1); e != api.OK {
		t.Fatal(e)
	}
	for _, want := range []string{"- -", "- +", "0220123456 -", "- -"} {
		observe(t, l, p, platesOf(t, "0220123456"), nil, want)
		if p, _, e = plant.Step(l, p, []int{0, 1, 0, 0}, nil); e != api.OK {
			t.Fatal(e)
		}
	}
}

// spoil changes a layout, a plant, plates or faults so that they do not have their form.
func (r *random) spoil(l *api.Layout, p *api.Plant, plates *[]api.Plate, faults *[]api.Fault) {
	numbers := []int{math.MinInt, -2, -1, 0, 1, 2, 3, 4, 5, 6, 9, 10, 40, 41, math.MaxInt - 1, math.MaxInt}
	pick := func() int { return numbers[r.below(len(numbers))] }
	i := r.below(len(l.Devices))
	switch r.below(10) {
	case 0:
		l.Devices[i].Kind = pick()
	case 1:
		l.Devices[i].Node = pick()
	case 2:
		l.Devices[i].Window = pick()
	case 3:
		l.Nodes = l.Nodes[:r.below(len(l.Nodes)+1)]
	case 4:
		p.Slots = p.Slots[:r.below(len(p.Slots)+1)]
	case 5:
		p.Slots = append(p.Slots, []int{pick(), pick()})
	case 6:
		if len(p.Slots) > 0 {
			p.Slots[r.below(len(p.Slots))] = []int{pick(), pick(), pick()}[:r.below(4)]
		}
	case 7:
		*plates = (*plates)[:r.below(len(*plates)+1)]
	case 8:
		*plates = append(*plates, api.Plate{Lead: pick(), Airline: pick(), Serial: pick()})
		slices.Reverse(*plates)
	case 9:
		*faults = append(*faults, fault(pick(), pick(), pick()))
	}
}

func TestAnyArguments(t *testing.T) { // rule 1, rule 3
	r := random(3)
	for range 40000 {
		l := r.layout()
		p, plates := r.plant(l, 5)
		faults := r.faults(l, p)
		for range 1 + r.below(4) {
			r.spoil(&l, &p, &plates, &faults)
		}
		reports, e := Observe(l, p, plates, faults)
		if want := len(l.Devices); e == api.OK && len(reports) != want || e != api.OK && len(reports) > 0 {
			t.Fatal(l, p, plates, faults, reports, e)
		}
		for _, report := range append(reports, api.Report{}, api.Report{Seen: true}, api.Report{Seen: true, Read: "0117000001"}) {
			if n, ok := Cost(l, p, plates, report); n < 0 || n > 1 || !ok && n != 0 {
				t.Fatal(l, p, plates, report, n, ok)
			}
		}
	}
}

func TestOtherForms(t *testing.T) { // rule 1
	l, p, _ := four(t)
	for _, bag := range []int{math.MinInt, -1, 3, api.MaxBags + 1, math.MaxInt} {
		for _, plates := range [][]api.Plate{nil, {{}, {}}, {{Airline: 1}, {Airline: 1000}, {Lead: -1}}} {
			p.Slots[0] = []int{bag, bag}
			for kind := range 8 {
				for device := range 4 {
					Observe(l, p, plates, []api.Fault{fault(kind, device, 0)})
					Observe(l, p, plates, []api.Fault{fault(kind, device, 9)})
					Cost(l, p, plates, api.Report{Device: device, Seen: true, Read: "0117000001"})
				}
			}
		}
	}
	many := api.Layout{Devices: make([]api.Device, 100000)}
	if reports, e := Observe(many, api.Plant{}, nil, nil); e != api.OK || len(reports) != len(many.Devices) {
		t.Error(len(reports), e)
	}
	Observe(api.Layout{}, p, nil, nil)
	Observe(l, api.Plant{}, nil, []api.Fault{fault(ghost, 2, 0)})
	Cost(l, api.Plant{}, nil, api.Report{Seen: true, Read: strings.Repeat("?", 10)})
}

// spare returns a list whose spare capacity is not empty.
func spare[T any](l []T, extra T) []T {
	return append(slices.Clone(l), extra, extra, extra)[:len(l)]
}

// whole returns a copy of a list with its spare capacity.
func whole[T any](l []T) []T {
	return slices.Clone(l[:cap(l)])
}

func TestArgumentsAreKept(t *testing.T) { // rule 2
	l, p, plates := four(t)
	l.Nodes, l.Devices = spare(l.Nodes, api.Node{}), spare(l.Devices, api.Device{Kind: 2})
	p.Slots, p.Bins, plates = spare(p.Slots, nil), spare(p.Bins, nil), spare(plates, api.Plate{Airline: 8})
	p.Slots[0], p.Bins[1] = spare(p.Slots[0], 9), spare(p.Bins[1], 9)
	faults := spare([]api.Fault{fault(unseen, 0, 4), fault(ghost, 3, 0)}, fault(miss, 2, 0))
	devices, windows, bin, plateList, faultList := whole(l.Devices), whole(p.Slots[0]), whole(p.Bins[1]), whole(plates), whole(faults)
	slots, bins, nodes := len(whole(p.Slots)), len(whole(p.Bins)), len(whole(l.Nodes))
	reports, e := Observe(l, p, plates, faults)
	if e != api.OK {
		t.Fatal(e)
	}
	Observe(l, p, plates, faults[:cap(faults)])
	for _, r := range reports {
		Cost(l, p, plates, r)
	}
	for i := range reports[:cap(reports)] {
		reports[:cap(reports)][i] = api.Report{Device: -7}
	}
	again, _ := Observe(l, p, plates, faults)
	if !slices.Equal(again, reportsOf("0189?00999 - + +")) {
		t.Error(again)
	}
	if !slices.Equal(whole(l.Devices), devices) || !slices.Equal(whole(p.Slots[0]), windows) || !slices.Equal(whole(p.Bins[1]), bin) ||
		!slices.Equal(whole(plates), plateList) || !slices.Equal(whole(faults), faultList) {
		t.Error(l, p, plates, faults)
	}
	if len(whole(p.Slots)) != slots || len(whole(p.Bins)) != bins || len(whole(l.Nodes)) != nodes {
		t.Error(l, p)
	}
}

func TestResultsShareNoMemory(t *testing.T) { // rule 2
	l, p, plates := four(t)
	for _, faults := range [][]api.Fault{nil, {fault(miss, 0, 0)}} {
		first, _ := Observe(l, p, plates, faults)
		second, _ := Observe(l, p, plates, faults)
		want := slices.Clone(second)
		for i := range first[:cap(first)] {
			first[:cap(first)][i] = api.Report{Device: -7, Read: "x"}
		}
		if !slices.Equal(second, want) {
			t.Error(second, want)
		}
	}
}
