package layout

import (
	"math"
	"reflect"
	"slices"
	"strconv"
	"strings"
	"testing"

	"baggage/api"
)

func node(name string, kind, length, zone int, exits ...int) api.Node {
	return api.Node{Name: name, Kind: kind, Length: length, Zone: zone, Exits: exits}
}

func device(kind, node, window int) api.Device {
	return api.Device{Kind: kind, Node: node, Window: window}
}

// The indices of the nodes of plan.
const (
	nE1, nE2, nB, nS, nL, nG, nD = 0, 1, 2, 3, 4, 5, 6
	nP, nC, nM, nQ, nR, nN, nV   = 7, 8, 9, 10, 11, 12, 13
	nK                           = 14
)

// plan returns a valid layout with all kinds, and with those that may be in both zones in both.
func plan() api.Layout {
	return api.Layout{
		Nodes: []api.Node{
			node("E1", api.NodeEntry, 1, 0, nB),
			node("E2", api.NodeEntry, 8, 0, nB),
			node("B", api.NodeBelt, 3, 0, nS),
			node("S", api.NodeScreen, 2, 0, nL),
			node("L", api.NodeLoop, 3, 0, nL, nG),
			node("G", api.NodeGate, 1, 0, nM, nD),
			node("D", api.NodeDiverter, 4, 1, nC, nP),
			node("P", api.NodeStore, 0, 1, nQ),
			node("C", api.NodeChute, 0, 1),
			node("M", api.NodeManual, 0, 0),
			node("Q", api.NodeBelt, 2, 1, nR),
			node("R", api.NodeLoop, 2, 1, nR, nN),
			node("N", api.NodeManual, 0, 1),
			node("V", api.NodeDiverter, 1, 0, nM, nG),
			node("K", api.NodeBelt, 5, 0, nM),
		},
		Devices: []api.Device{
			device(api.DevPhotocell, nB, 0),
			device(api.DevPhotocell, nB, 2),
			device(api.DevScanner, nB, 0),
			device(api.DevScanner, nG, 0),
			device(api.DevPhotocell, nR, 1),
		},
	}
}

// small returns the layout of the chapter's example.
func small() api.Layout {
	return api.Layout{
		Nodes: []api.Node{
			node("A", api.NodeEntry, 2, 0, 1),
			node("G", api.NodeGate, 1, 0, 3, 2),
			node("C", api.NodeChute, 0, 1),
			node("M", api.NodeManual, 0, 0),
		},
		Devices: []api.Device{device(api.DevScanner, 1, 0)},
	}
}

// largest returns a layout that is as large as it can be in all of its limits.
func largest() api.Layout {
	var l api.Layout
	for i := range api.MaxNodes - 1 {
		n := node(longName(i), api.NodeDiverter, 3, 0, i+1, api.MaxNodes-1)
		switch {
		case i == 0:
			n.Kind, n.Length, n.Exits = api.NodeEntry, api.MaxLength, []int{1}
		case i == 1:
			n.Length = api.MaxLength
		case i == api.MaxNodes-2:
			n.Kind, n.Length, n.Exits = api.NodeBelt, 4, []int{api.MaxNodes - 1}
		}
		l.Nodes = append(l.Nodes, n)
		l.Devices = append(l.Devices, device(1+i%2, i, n.Length-1))
	}
	l.Nodes = append(l.Nodes, node(longName(api.MaxNodes-1), api.NodeManual, 0, 0))
	l.Devices = append(l.Devices, device(api.DevPhotocell, 1, 0))
	return l
}

func longName(i int) string {
	return "ABCDEFGHIJ" + string(rune('A'+i)) + "9"
}

// fault makes a valid layout invalid. Those of a lower rank come first.
type fault struct {
	rank int
	name string
	set  func(*api.Layout)
	want api.Errno
}

// faults returns faults for plan.
func faults() []fault {
	return slices.Concat(limits(), nodeFaults(), windowFaults(), zoneFaults(), cycles(), deviceFaults(), []fault{
		{9, "no entry", func(l *api.Layout) { l.Nodes[nE1].Kind, l.Nodes[nE2].Kind = api.NodeBelt, api.NodeBelt }, api.ErrMissing},
	})
}

func limits() []fault {
	return []fault{
		{1, "nodes", func(l *api.Layout) {
			for len(l.Nodes) <= api.MaxNodes {
				l.Nodes = append(l.Nodes, node("X"+strconv.Itoa(len(l.Nodes)), api.NodeManual, 0, 0))
			}
		}, api.ErrLimit},
		{1, "zero nodes", func(l *api.Layout) { l.Nodes = make([]api.Node, 1000) }, api.ErrLimit},
		{1, "devices", func(l *api.Layout) {
			for i := 0; len(l.Devices) <= api.MaxDevices; i++ {
				l.Devices = append(l.Devices, device(1+i%2, []int{nE2, nK}[i/16], i/2%8))
			}
		}, api.ErrLimit},
		{1, "zero devices", func(l *api.Layout) { l.Devices = make([]api.Device, 1000) }, api.ErrLimit},
	}
}

func nodeFaults() []fault {
	var l []fault
	add := func(name string, want api.Errno, set func(*api.Layout)) {
		l = append(l, fault{2, name, set, want})
	}
	for _, s := range []string{"", "a", "Ab", "1", "9A", "A-", "A B", " A", "A ", ">", "A\n", "\x00", "A\xff", "\xc3\x85", "@", "[", "A/", "A:", "ABCDEFGHIJKLM", strings.Repeat("A", 1000)} {
		add("name "+s, api.ErrSyntax, func(l *api.Layout) { l.Nodes[nB].Name = s })
	}
	for _, k := range []int{0, -1, 10, 11, math.MaxInt, math.MinInt} {
		add("kind", api.ErrKind, func(l *api.Layout) { l.Nodes[nB].Kind = k })
	}
	for _, i := range []int{nE1, nB, nS, nL, nG, nD} {
		for _, n := range []int{0, -1, 9, 10, math.MaxInt, math.MinInt} {
			add("length of strip", api.ErrRange, func(l *api.Layout) { l.Nodes[i].Length = n })
		}
	}
	add("length of loop", api.ErrRange, func(l *api.Layout) { l.Nodes[nL].Length = 1 })
	for _, i := range []int{nP, nC, nM} {
		for _, n := range []int{1, 2, 8, -1, math.MaxInt} {
			add("length of bin", api.ErrRange, func(l *api.Layout) { l.Nodes[i].Length = n })
		}
	}
	for i := range plan().Nodes {
		for _, z := range []int{2, -1, math.MaxInt, math.MinInt} {
			add("zone", api.ErrRange, func(l *api.Layout) { l.Nodes[i].Zone = z })
		}
		add("too few exits", api.ErrRange, func(l *api.Layout) {
			if n := len(l.Nodes[i].Exits); n > 0 {
				l.Nodes[i].Exits = l.Nodes[i].Exits[:n-1]
			} else {
				l.Nodes[i].Exits = []int{nM}
			}
		})
		add("too many exits", api.ErrRange, func(l *api.Layout) { l.Nodes[i].Exits = append(l.Nodes[i].Exits, nN) })
	}
	return append(l, exitFaults()...)
}

func exitFaults() []fault {
	var l []fault
	add := func(node int, exits ...int) {
		l = append(l, fault{2, "exits", func(l *api.Layout) { l.Nodes[node].Exits = exits }, api.ErrRange})
	}
	for _, x := range []int{-1, 15, 16, 25, math.MaxInt, math.MinInt} {
		add(nB, x)
		add(nP, x)
		add(nD, x, nC)
		add(nD, nC, x)
		add(nL, nL, x)
		add(nL, x, nG)
	}
	add(nE1, nE1)
	add(nB, nB)
	add(nS, nS)
	add(nP, nP)
	add(nD, nD, nC)
	add(nD, nC, nD)
	add(nG, nG, nD)
	add(nG, nM, nG)
	add(nL, nG, nL)
	add(nL, nL, nL)
	add(nL, nG, nM)
	add(nD, nC, nC)
	add(nG, nM, nM)
	add(nD)
	add(nB)
	add(nC, nN)
	add(nM, nB, nB)
	return l
}

// windowFaults has those of the ranks 3 and 4.
func windowFaults() []fault {
	l := []fault{{3, "windows", func(l *api.Layout) {
		for i, n := range l.Nodes {
			if n.Length > 0 {
				l.Nodes[i].Length = api.MaxLength
			}
		}
	}, api.ErrLimit}}
	for _, c := range [][2]int{{0, 1}, {0, 13}, {13, 0}, {nC, nP}, {nM, nN}} {
		l = append(l, fault{4, "names", func(l *api.Layout) { l.Nodes[c[0]].Name = l.Nodes[c[1]].Name }, api.ErrDuplicate})
	}
	return l
}

func zoneFaults() []fault {
	var l []fault
	for _, i := range []int{nE1, nE2, nS, nG, nP, nC} {
		l = append(l, fault{5, "zone of kind", func(l *api.Layout) { l.Nodes[i].Zone = 1 - l.Nodes[i].Zone }, api.ErrState})
	}
	for _, i := range []int{nB, nL, nD, nM, nQ, nR, nV, nK} { // so that an exit leads into another zone
		l = append(l, fault{5, "zone of place", func(l *api.Layout) { l.Nodes[i].Zone = 1 - l.Nodes[i].Zone }, api.ErrState})
	}
	for _, c := range [][]int{
		{nG, nM, nE1}, {nG, nM, nE2}, // into zone 0, whatever the kind is
		{nG, nM, nV}, {nG, nD, nM}, {nG, nC, nD}, {nG, nM, nB}, // of a Gate
		{nE1, nN}, {nB, nQ}, {nS, nC}, {nL, nL, nR}, {nV, nM, nN}, {nV, nN, nM}, // out of zone 0
		{nP, nM}, {nD, nC, nM}, {nD, nM, nC}, {nQ, nM}, {nR, nR, nB}, {nQ, nG}, // out of zone 1
	} {
		l = append(l, fault{5, "exits and zones", func(l *api.Layout) { l.Nodes[c[0]].Exits = slices.Clone(c[1:]) }, api.ErrState})
	}
	for _, c := range [][]int{{nB, nE1}, {nS, nE2}, {nV, nM, nE2}, {nV, nE1, nM}, {nL, nL, nE1}, {nG, nE1, nD}, {nE2, nE1}} {
		l = append(l, fault{5, toEntry, func(l *api.Layout) { l.Nodes[c[0]].Exits = slices.Clone(c[1:]) }, api.ErrState})
	}
	return l
}

// toEntry names the faults that are none without an Entry.
const toEntry = "exit to an Entry"

func cycles() []fault {
	var l []fault
	for _, c := range [][][]int{
		{{nQ, nP}},
		{{nQ, nD}},
		{{nR, nR, nD}},
		{{nR, nR, nQ}},
		{{nB, nL}, {nL, nL, nB}},
		{{nL, nL, nV}, {nV, nM, nB}},
		{{nL, nL, nV}, {nV, nL, nM}},
		{{nG, nV, nD}},
		{{nG, nB, nD}},
	} {
		l = append(l, fault{6, "cycle", func(l *api.Layout) {
			for _, x := range c {
				l.Nodes[x[0]].Exits = slices.Clone(x[1:])
			}
		}, api.ErrOrder})
	}
	return l
}

// deviceFaults has those of the ranks 7 and 8.
func deviceFaults() []fault {
	var l []fault
	for _, k := range []int{0, -1, 3, 4, math.MaxInt, math.MinInt} {
		l = append(l, fault{7, "kind of device", func(l *api.Layout) { l.Devices[1].Kind = k }, api.ErrKind})
	}
	for _, i := range []int{-1, 15, 24, 25, nP, nC, nM, nN, math.MaxInt, math.MinInt} {
		l = append(l, fault{7, "node of device", func(l *api.Layout) { l.Devices[1].Node = i; l.Devices[1].Window = 0 }, api.ErrRange})
	}
	for _, w := range []int{-1, 3, 4, 8, math.MaxInt, math.MinInt} {
		l = append(l, fault{7, "window of device", func(l *api.Layout) { l.Devices[1].Window = w }, api.ErrRange})
	}
	for _, c := range [][2]int{{0, 1}, {1, 0}, {4, 2}, {3, 4}} {
		l = append(l, fault{8, "devices", func(l *api.Layout) { l.Devices[c[0]] = l.Devices[c[1]] }, api.ErrDuplicate})
	}
	return l
}

// refuse checks that l has an error in all functions that say so.
func refuse(t *testing.T, name string, l api.Layout, want api.Errno) {
	t.Helper()
	if e := Validate(l); e != want {
		t.Errorf("%s: Validate of %v is %d, not %d", name, l, e, want)
	}
	if s, e := Format(l); s != "" || e != want {
		t.Errorf("%s: Format of %v is %q, %d, not %d", name, l, s, e, want)
	}
	if n := Windows(l); n != 0 {
		t.Errorf("%s: Windows of %v is %d", name, l, n)
	}
	if got := Order(l); len(got) != 0 {
		t.Errorf("%s: Order of %v is %v", name, l, got)
	}
}

// accept checks that l is valid and has an order and a number of windows.
func accept(t *testing.T, l api.Layout, windows int, order ...int) {
	t.Helper()
	if e := Validate(l); e != api.OK {
		t.Errorf("Validate of %v is %d", l, e)
	}
	if n := Windows(l); n != windows {
		t.Errorf("Windows of %v is %d, not %d", l, n, windows)
	}
	if got := Order(l); !slices.Equal(got, order) {
		t.Errorf("Order of %v is %v, not %v", l, got, order)
	}
}

func upTo(n int) []int {
	var l []int
	for i := range n {
		l = append(l, i)
	}
	return l
}

func TestValidLayouts(t *testing.T) { // P7.1, P7.4
	accept(t, small(), 3, 0, 1, 2, 3)
	accept(t, plan(), 32, 0, 1, 2, 3, 4, 13, 5, 6, 7, 8, 10, 11, 12, 14, 9)
	accept(t, largest(), api.MaxWindows, upTo(api.MaxNodes)...)
	accept(t, api.Layout{Nodes: []api.Node{node("M", api.NodeManual, 0, 0), node("A", api.NodeEntry, 1, 0, 0)}}, 1, 1, 0)
	accept(t, api.Layout{Nodes: []api.Node{node("ABCDEFGHIJ09", api.NodeEntry, 8, 0, 1), node("Z", api.NodeManual, 0, 0)}, Devices: []api.Device{}}, 8, 0, 1)
	for n := 1; n <= api.MaxLength; n++ {
		l := plan()
		l.Devices = nil
		for i := range l.Nodes {
			if l.Nodes[i].Length > 0 {
				l.Nodes[i].Length = 2
			}
		}
		l.Nodes[nB].Length = n
		l.Nodes[nL].Length = max(n, 2)
		accept(t, l, 18+n+max(n, 2), 0, 1, 2, 3, 4, 13, 5, 6, 7, 8, 10, 11, 12, 14, 9)
	}
}

func TestOneErrorAtATime(t *testing.T) { // P7.1, P7.2, P7.4
	for _, f := range faults() {
		l := plan()
		f.set(&l)
		refuse(t, f.name, l, f.want)
	}
	refuse(t, "nothing", api.Layout{}, api.ErrMissing)
	refuse(t, "only devices", api.Layout{Devices: []api.Device{device(1, 0, 0)}}, api.ErrRange)
	refuse(t, "only bins", api.Layout{Nodes: []api.Node{node("M", api.NodeManual, 0, 0)}}, api.ErrMissing)
}

func TestOrderOfErrors(t *testing.T) { // P7.1
	for _, first := range faults() {
		for _, later := range faults() {
			if first.rank >= later.rank || first.name == toEntry && later.rank == 9 {
				continue
			}
			l := plan()
			later.set(&l)
			first.set(&l)
			if e := Validate(l); e != first.want {
				t.Errorf("%s and %s: %d, not %d", first.name, later.name, e, first.want)
			}
		}
	}
}

func TestOrderOfErrorsOfNodes(t *testing.T) { // P7.1
	sets := []struct {
		set  func(*api.Node)
		want api.Errno
	}{
		{func(n *api.Node) { n.Name = "?" }, api.ErrSyntax},
		{func(n *api.Node) { n.Kind = 0 }, api.ErrKind},
		{func(n *api.Node) { n.Length = 99 }, api.ErrRange},
		{func(n *api.Node) { n.Zone = 2 }, api.ErrRange},
		{func(n *api.Node) { n.Exits = []int{-1, -1, -1} }, api.ErrRange},
	}
	for i := range plan().Nodes {
		for k := i; k < len(plan().Nodes); k++ {
			for x, a := range sets {
				for y, b := range sets {
					if i == k && x > y { // in one node the order of errors is that of the list
						continue
					}
					l := plan()
					a.set(&l.Nodes[i])
					b.set(&l.Nodes[k])
					if e := Validate(l); e != a.want {
						t.Errorf("%v: %d, not %d", l, e, a.want)
					}
				}
			}
		}
	}
}

func TestOrderOfErrorsOfDevices(t *testing.T) { // P7.1
	for i := range plan().Devices {
		for k := i; k < len(plan().Devices); k++ {
			for _, kindFirst := range []bool{true, false} {
				l := plan()
				a, b, want := &l.Devices[i], &l.Devices[k], api.ErrRange
				if kindFirst {
					a.Kind, b.Node, want = 3, -1, api.ErrKind
				} else if i < k {
					a.Window, b.Kind = 8, 0
				} else {
					a.Node, a.Window = nC, 0
				}
				if e := Validate(l); e != want {
					t.Errorf("%v: %d, not %d", l, e, want)
				}
			}
		}
	}
}

func TestLimits(t *testing.T) { // P7.1
	l := largest()
	l.Nodes[nB].Length++
	refuse(t, "windows", l, api.ErrLimit)
	l.Nodes[nB].Length -= 2
	l.Devices = nil
	accept(t, l, api.MaxWindows-1, upTo(api.MaxNodes)...)
	l = largest()
	l.Nodes = append(l.Nodes, node("X", api.NodeManual, 0, 0))
	refuse(t, "nodes", l, api.ErrLimit)
	l = largest()
	l.Devices = append(l.Devices, device(api.DevScanner, 0, 0))
	refuse(t, "devices", l, api.ErrLimit)
}

func TestDevicesOfOneWindow(t *testing.T) { // P7.1
	l := small()
	l.Devices = []api.Device{device(1, 0, 0), device(2, 0, 0), device(1, 0, 1), device(2, 0, 1), device(1, 1, 0), device(2, 1, 0)}
	accept(t, l, 3, 0, 1, 2, 3)
	for _, d := range l.Devices {
		x := small()
		x.Devices = append(slices.Clone(l.Devices), d)
		refuse(t, "device", x, api.ErrDuplicate)
	}
}

func TestExampleOfGate(t *testing.T) { // P7.1
	l := small()
	l.Nodes[1].Exits = []int{2, 3}
	refuse(t, "gate", l, api.ErrState)
}

func TestOrder(t *testing.T) { // P7.4
	for _, c := range []struct {
		want []int
		l    []api.Node
	}{
		{[]int{3, 2, 4, 1, 0}, []api.Node{
			node("M", api.NodeManual, 0, 0), node("B", api.NodeBelt, 1, 0, 0), node("L", api.NodeLoop, 2, 0, 2, 1), node("F", api.NodeEntry, 1, 0, 2), node("E", api.NodeEntry, 1, 0, 1)}},
		{[]int{0, 2, 4, 1, 3}, []api.Node{ // a node that nothing leads to is not held back
			node("M", api.NodeManual, 0, 0), node("B", api.NodeBelt, 1, 0, 3), node("A", api.NodeEntry, 1, 0, 4), node("N", api.NodeManual, 0, 0), node("C", api.NodeBelt, 1, 0, 1)}},
		{[]int{4, 1, 2, 0, 3, 5}, []api.Node{ // though more than one node is free only at the end
			node("D", api.NodeDiverter, 1, 0, 3, 5), node("B", api.NodeBelt, 1, 0, 2), node("C", api.NodeBelt, 1, 0, 0), node("M", api.NodeManual, 0, 0), node("A", api.NodeEntry, 1, 0, 1), node("N", api.NodeManual, 0, 0)}},
		{[]int{3, 2, 4, 0, 1, 5}, []api.Node{ // 5 must wait for both 1 and 2, and 4 leads to 1 before 0
			node("M", api.NodeManual, 0, 0), node("X", api.NodeBelt, 1, 0, 5), node("Y", api.NodeLoop, 2, 0, 2, 5), node("E", api.NodeEntry, 1, 0, 2), node("D", api.NodeDiverter, 1, 0, 1, 0), node("N", api.NodeManual, 0, 0)}},
	} {
		l := api.Layout{Nodes: c.l}
		if got := Order(l); !slices.Equal(got, c.want) {
			t.Errorf("%v: %v, not %v", l, got, c.want)
		}
	}
}

func TestFind(t *testing.T) { // P7.4
	l := plan()
	for i, n := range l.Nodes {
		if got := Find(l, n.Name); got != i {
			t.Errorf("%s: %d, not %d", n.Name, got, i)
		}
	}
	for _, s := range []string{"", "A", "e1", "E", "E11", "E1 ", "B\x00", "\xff"} {
		if got := Find(l, s); got != -1 {
			t.Errorf("%q: %d", s, got)
		}
	}
	if got := Find(api.Layout{}, ""); got != -1 {
		t.Error(got)
	}
	odd := api.Layout{Nodes: []api.Node{node("X", 0, 0, 9), node("Y\xff", 99, -1, 0), node("", 1, 1, 1), node("X", 1, 1, 1), node("Y\xff", 1, 1, 1)}}
	for s, want := range map[string]int{"X": 0, "Y\xff": 1, "": 2, "Y": -1, "Y\xfe": -1} { // also if it is not valid
		if got := Find(odd, s); got != want {
			t.Errorf("%q: %d, not %d", s, got, want)
		}
	}
	for i := range 100 {
		odd.Nodes = append(odd.Nodes, node("N"+strconv.Itoa(i), 0, 0, 0))
	}
	if got := Find(odd, "N99"); got != 104 {
		t.Error(got)
	}
}

func TestIsBin(t *testing.T) { // the terms of chapter 7
	bins := []int{api.NodeStore, api.NodeChute, api.NodeManual}
	for _, kind := range []int{math.MinInt, -1, 0, 1, 2, 3, 4, 5, 6, 7, 8, 9, 10, math.MaxInt} {
		for length := range 3 {
			n := node("N", kind, length, 0)
			if got := IsBin(n); got != slices.Contains(bins, kind) {
				t.Errorf("%v: %v", n, got)
			}
		}
	}
}

func TestHasWindow(t *testing.T) { // the terms of chapter 7
	l := plan()
	for _, i := range append(upTo(len(l.Nodes)), math.MinInt, -1, len(l.Nodes), math.MaxInt) {
		for _, window := range append(upTo(api.MaxLength+2), math.MinInt, -1, math.MaxInt) {
			want := i >= 0 && i < len(l.Nodes) && window >= 0 && window < l.Nodes[i].Length
			if got := HasWindow(l, i, window); got != want {
				t.Errorf("%d, %d: %v", i, window, got)
			}
		}
	}
	if HasWindow(api.Layout{}, 0, 0) {
		t.Error("a window of no node")
	}
}

func TestSame(t *testing.T) { // P7.4
	different := []api.Layout{{}, small(), plan(), largest()}
	for _, set := range []func(*api.Layout){
		func(l *api.Layout) { l.Nodes[1].Name = "H" },
		func(l *api.Layout) { l.Nodes[1].Kind = api.NodeDiverter },
		func(l *api.Layout) { l.Nodes[1].Kind = -1 },
		func(l *api.Layout) { l.Nodes[1].Length = 2 },
		func(l *api.Layout) { l.Nodes[1].Zone = 1 },
		func(l *api.Layout) { l.Nodes[1].Exits = []int{2, 3} },
		func(l *api.Layout) { l.Nodes[1].Exits = []int{3} },
		func(l *api.Layout) { l.Nodes[1].Exits = []int{3, 2, 2} },
		func(l *api.Layout) { l.Nodes[1].Exits = nil },
		func(l *api.Layout) { l.Nodes[3].Exits = []int{0} },
		func(l *api.Layout) { l.Nodes[2], l.Nodes[3] = l.Nodes[3], l.Nodes[2] },
		func(l *api.Layout) { l.Nodes = l.Nodes[:3] },
		func(l *api.Layout) { l.Nodes = append(l.Nodes, api.Node{}) },
		func(l *api.Layout) { l.Nodes = nil },
		func(l *api.Layout) { l.Devices[0].Kind = 1 },
		func(l *api.Layout) { l.Devices[0].Node = 0 },
		func(l *api.Layout) { l.Devices[0].Window = 1 },
		func(l *api.Layout) { l.Devices = nil },
		func(l *api.Layout) { l.Devices = append(l.Devices, l.Devices[0]) },
		func(l *api.Layout) { l.Devices = append(l.Devices, api.Device{}) },
	} {
		l := small()
		set(&l)
		different = append(different, l)
	}
	for i, a := range different {
		for k, b := range different {
			if got := Same(a, b); got != (i == k) {
				t.Errorf("Same(%v, %v) is %v", a, b, got)
			}
		}
	}
	if !Same(plan(), plan()) {
		t.Error("not the same as itself")
	}
	if !Same(api.Layout{Nodes: []api.Node{{}}}, api.Layout{Nodes: []api.Node{{Exits: []int{}}}, Devices: []api.Device{}}) || !Same(api.Layout{}, api.Layout{Nodes: []api.Node{}}) {
		t.Error("nil and empty slices")
	}
}

// random is a sequence of numbers that looks random.
type random uint32

// below returns a number from 0 to n-1.
func (r *random) below(n int) int {
	*r = *r*1664525 + 1013904223
	return int(*r>>8) % n
}

// some returns a layout of a few nodes, which is valid but for the Entry that it may lack and for cycles if loose is true.
func (r *random) some(loose bool) api.Layout {
	l := api.Layout{Nodes: make([]api.Node, 2+r.below(5))}
	later := upTo(len(l.Nodes)) // from the last one to the first one, the nodes that a node may lead to
	for i := range later {
		k := i + r.below(len(later)-i)
		later[i], later[k] = later[k], later[i]
	}
	for at, i := range later {
		l.Nodes[i] = r.node(l.Nodes, i, later[:at])
		l.Nodes[i].Name = string(rune('A' + (i*5)%7))
	}
	for i, n := range l.Nodes {
		if loose && exitsOf(n.Kind) > 0 && r.below(2) == 0 {
			x := len(n.Exits) - 1
			for to, m := range l.Nodes {
				if m.Kind != api.NodeEntry && to != i && m.Zone == l.Nodes[n.Exits[x]].Zone && !slices.Contains(n.Exits, to) && r.below(3) == 0 {
					l.Nodes[i].Exits[x] = to
				}
			}
		}
		for w := range n.Length {
			for kind := api.DevPhotocell; kind <= api.DevScanner; kind++ {
				if r.below(3) == 0 {
					l.Devices = append(l.Devices, device(kind, i, w))
				}
			}
		}
	}
	return l
}

// node returns a node whose exits lead to the nodes of some indices, if there are enough of them.
func (r *random) node(nodes []api.Node, i int, others []int) api.Node {
	kind, zone := 1+r.below(9), r.below(2)
	switch kind {
	case api.NodeEntry, api.NodeScreen, api.NodeGate:
		zone = 0
	case api.NodeStore, api.NodeChute:
		zone = 1
	}
	n := api.Node{Kind: kind, Zone: zone}
	if kind < api.NodeStore {
		n.Length = 2 + r.below(2)
	}
	for x := range map[int]int{api.NodeDiverter: 2, api.NodeLoop: 2, api.NodeGate: 2, api.NodeChute: 0, api.NodeManual: 0, api.NodeEntry: 1, api.NodeBelt: 1, api.NodeScreen: 1, api.NodeStore: 1}[kind] {
		var can []int
		for _, k := range others {
			want := zone
			if kind == api.NodeGate && x == 1 {
				want = 1
			}
			if nodes[k].Kind != api.NodeEntry && nodes[k].Zone == want && !slices.Contains(n.Exits, k) {
				can = append(can, k)
			}
		}
		switch {
		case kind == api.NodeLoop && x == 0:
			n.Exits = append(n.Exits, i)
		case len(can) == 0:
			return api.Node{Kind: api.NodeManual, Zone: zone}
		default:
			n.Exits = append(n.Exits, can[r.below(len(can))])
		}
	}
	return n
}

// spoil changes one thing in l, which may make it invalid.
func (r *random) spoil(l api.Layout) api.Layout {
	n := &l.Nodes[r.below(len(l.Nodes))]
	switch r.below(9) {
	case 0:
		n.Name = []string{"A", "F", "", "a"}[r.below(4)]
	case 1:
		n.Kind = r.below(11)
	case 2:
		n.Length = r.below(10)
	case 3:
		n.Zone = r.below(3)
	case 4, 5, 6:
		if len(n.Exits) > 0 {
			n.Exits[r.below(len(n.Exits))] = r.below(len(l.Nodes)+2) - 1
		}
	case 7:
		n.Exits = append(n.Exits, r.below(len(l.Nodes)))
	case 8:
		l.Devices = append(l.Devices, device(r.below(4), r.below(len(l.Nodes)+1)-1, r.below(4)-1))
	}
	return l
}

// firstOrder returns the first of all sequences of the nodes, in lexical order, in which each node is behind those that lead to it, or nothing.
func firstOrder(l api.Layout, done []int) []int {
	if len(done) == len(l.Nodes) {
		return done
	}
	for i := range l.Nodes {
		free := !slices.Contains(done, i)
		for k, n := range l.Nodes {
			if k != i && slices.Contains(n.Exits, i) && !slices.Contains(done, k) {
				free = false
			}
		}
		if !free {
			continue
		}
		if whole := firstOrder(l, append(slices.Clone(done), i)); whole != nil {
			return whole
		}
	}
	return nil
}

// judge is a second reading of P7.1 for layouts of few nodes and devices.
func judge(l api.Layout) api.Errno {
	names, entries := map[string]bool{}, 0
	for i, n := range l.Nodes {
		names[n.Name] = true
		if n.Kind == 1 {
			entries++
		}
		if e := judgeNode(l, i); e != api.OK {
			return e
		}
	}
	if len(names) < len(l.Nodes) {
		return api.ErrDuplicate
	}
	for _, n := range l.Nodes {
		if !judgeZone(l, n) {
			return api.ErrState
		}
	}
	if firstOrder(l, nil) == nil {
		return api.ErrOrder
	}
	seen := map[api.Device]bool{}
	for _, d := range l.Devices {
		seen[d] = true
		if d.Kind != 1 && d.Kind != 2 {
			return api.ErrKind
		}
		if d.Node < 0 || d.Node >= len(l.Nodes) || l.Nodes[d.Node].Kind >= 7 || d.Window < 0 || d.Window >= l.Nodes[d.Node].Length {
			return api.ErrRange
		}
	}
	switch {
	case len(seen) < len(l.Devices):
		return api.ErrDuplicate
	case entries == 0:
		return api.ErrMissing
	}
	return api.OK
}

// judgeNode returns the error of the node i by itself. Names have only letters here.
func judgeNode(l api.Layout, i int) api.Errno {
	n := l.Nodes[i]
	if n.Name == "" || strings.Trim(n.Name, "ABCDEFGHIJKLMNOPQRSTUVWXYZ") != "" {
		return api.ErrSyntax
	}
	count, ok := map[int]int{1: 1, 2: 1, 3: 1, 4: 2, 5: 2, 6: 2, 7: 1, 8: 0, 9: 0}[n.Kind]
	if !ok {
		return api.ErrKind
	}
	if n.Kind >= 7 && n.Length != 0 || n.Kind < 7 && (n.Length < 1 || n.Length > 8) || n.Kind == 5 && n.Length < 2 || n.Zone&^1 != 0 || len(n.Exits) != count {
		return api.ErrRange
	}
	for x, to := range n.Exits {
		if to < 0 || to >= len(l.Nodes) || (n.Kind == 5 && x == 0) != (to == i) || x == 1 && to == n.Exits[0] {
			return api.ErrRange
		}
	}
	return api.OK
}

// judgeZone reports whether a node of l is where it can be, and leads to where it can lead.
func judgeZone(l api.Layout, n api.Node) bool {
	if zone, ok := map[int]int{1: 0, 3: 0, 6: 0, 7: 1, 8: 1}[n.Kind]; ok && zone != n.Zone {
		return false
	}
	for x, to := range n.Exits {
		zone := n.Zone
		if n.Kind == 6 && x == 1 {
			zone = 1
		}
		if l.Nodes[to].Kind == 1 || l.Nodes[to].Zone != zone {
			return false
		}
	}
	return true
}

func TestManyLayouts(t *testing.T) { // P7.1, P7.2, P7.3, P7.4
	r := random(1)
	seen := map[api.Errno]int{}
	for k := range 30000 {
		l := r.some(k%3 == 0)
		for range k % 4 {
			l = r.spoil(l)
		}
		want := api.ErrLimit
		if len(l.Devices) <= api.MaxDevices {
			want = judge(l)
		}
		seen[want]++
		if want != api.OK {
			refuse(t, "layout", l, want)
			continue
		}
		windows := 0
		for _, n := range l.Nodes {
			windows += n.Length
		}
		accept(t, l, windows, firstOrder(l, nil)...)
		order := Order(l)
		if last := l.Nodes[order[len(order)-1]]; last.Kind < api.NodeChute {
			t.Error(l, order)
		}
		s, e := Format(l)
		if e != api.OK || s != write(l) {
			t.Errorf("%v: %q, %d", l, s, e)
		}
		if again, line, e := Parse(s); !same(again, l) || line != 0 || e != api.OK {
			t.Errorf("%q: %v, %d, %d", s, again, line, e)
		}
	}
	for _, e := range []api.Errno{api.OK, api.ErrSyntax, api.ErrKind, api.ErrRange, api.ErrDuplicate, api.ErrState, api.ErrOrder, api.ErrMissing} {
		if seen[e] < 100 {
			t.Error("seldom:", e, seen[e])
		}
	}
}

// same compares layouts without the help of Same, and takes nil and empty slices for the same.
func same(a, b api.Layout) bool {
	return reflect.DeepEqual(plain(a), plain(b))
}

func plain(l api.Layout) api.Layout {
	x := api.Layout{Nodes: append([]api.Node{}, l.Nodes...), Devices: append([]api.Device{}, l.Devices...)}
	for i := range x.Nodes {
		x.Nodes[i].Exits = append([]int{}, x.Nodes[i].Exits...)
	}
	return x
}

func TestAnyArguments(t *testing.T) { // rule 1
	numbers := []int{math.MinInt, -1, 0, 1, 2, 5, 9, 24, math.MaxInt}
	r := random(7)
	pick := func() int { return numbers[r.below(len(numbers))] }
	for range 5000 {
		l := plan()
		for range 1 + r.below(3) {
			n := &l.Nodes[r.below(len(l.Nodes))]
			d := &l.Devices[r.below(len(l.Devices))]
			switch r.below(7) {
			case 0:
				n.Kind = pick()
			case 1:
				n.Length = pick()
			case 2:
				n.Zone = pick()
			case 3:
				n.Exits = []int{pick(), pick(), pick()}[:r.below(4)]
			case 4:
				*d = device(pick(), pick(), pick())
			case 5:
				l.Nodes = l.Nodes[:1+r.below(len(l.Nodes))]
			case 6:
				n.Name = "\xff\x00"
			}
		}
		s, e := Format(l)
		if again, line, f := Parse(s); e == api.OK && (f != api.OK || line != 0 || !same(again, l)) {
			t.Errorf("%v: %q, %v, %d, %d", l, s, again, line, f)
		}
		if valid := Validate(l) == api.OK; valid != (len(Order(l)) > 0) || valid != (Windows(l) > 0) || valid != (e == api.OK) || !Same(l, l) {
			t.Error(l)
		}
		Find(l, s)
	}
}

// padded returns l with something behind each of its slices, and all of that.
func padded(l api.Layout) (api.Layout, api.Layout) {
	whole := plain(l)
	for i := range whole.Nodes {
		whole.Nodes[i].Exits = append(whole.Nodes[i].Exits, 77, 78)
	}
	whole.Nodes = append(whole.Nodes, node("SPARE", 7, 7, 7, 7), node("SPARE", 8, 8, 8))
	whole.Devices = append(whole.Devices, device(7, 7, 7), device(8, 8, 8))
	x := api.Layout{Nodes: slices.Clone(whole.Nodes), Devices: whole.Devices[:len(l.Devices)]}
	for i, n := range l.Nodes {
		x.Nodes[i].Exits = whole.Nodes[i].Exits[:len(n.Exits)]
	}
	x.Nodes = x.Nodes[:len(l.Nodes)]
	return x, whole
}

func TestArgumentsAreKept(t *testing.T) { // rule 2
	for _, f := range append(faults(), fault{set: func(*api.Layout) {}}) {
		l := plan()
		f.set(&l)
		x, whole := padded(l)
		before := plain(whole)
		Validate(x)
		Format(x)
		Find(x, "N")
		Order(x)
		Windows(x)
		Same(x, plan())
		Same(plan(), x)
		if !same(x, l) || !same(whole, before) {
			t.Errorf("%s: %v, not %v", f.name, whole, before)
		}
		for i, n := range x.Nodes[:cap(x.Nodes)][:len(whole.Nodes)] {
			if n.Name != before.Nodes[i].Name || i >= len(l.Nodes) && !slices.Equal(n.Exits, before.Nodes[i].Exits) {
				t.Errorf("%s: %v, not %v", f.name, n, before.Nodes[i])
			}
		}
	}
}

func TestResultsShareNoMemory(t *testing.T) { // rule 2
	l := plan()
	a := Order(l)
	b := Order(l)
	want := slices.Clone(b)
	for i := range a[:cap(a)] {
		a[:cap(a)][i] = -7
	}
	if !slices.Equal(b, want) || !slices.Equal(Order(l), want) || !same(l, plan()) {
		t.Error(a, b, l)
	}
	x, _, _ := Parse(write(l))
	y, _, _ := Parse(write(l))
	for i, n := range x.Nodes {
		for k := range n.Exits[:cap(n.Exits)] {
			n.Exits[:cap(n.Exits)][k] = -7
		}
		for k := i + 1; k < len(x.Nodes); k++ {
			if !slices.Equal(x.Nodes[k].Exits, y.Nodes[k].Exits) {
				t.Error(i, k, x.Nodes[k])
			}
		}
	}
	clear(x.Nodes[:cap(x.Nodes)])
	clear(x.Devices[:cap(x.Devices)])
	if !same(y, l) {
		t.Error(y)
	}
}
