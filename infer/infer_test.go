package infer

import (
	"math"
	"slices"
	"strconv"
	"strings"
	"testing"

	"baggage/api"
	"baggage/layout"
	"baggage/plate"
)

// parse returns the layout of some lines.
func parse(t *testing.T, lines ...string) api.Layout {
	t.Helper()
	l, line, e := layout.Parse(strings.Join(lines, "\n") + "\n")
	if e != api.OK {
		t.Fatal(lines, line, e)
	}
	return l
}

// digits are the bags from 0 to MaxBags in texts.
const digits = "0123456789abcdefghijklmnopqrstuvwxyzABCDE"

// numbers returns the bags of a text with a digit for each.
func numbers(text string) []int {
	var list []int
	for _, c := range text {
		list = append(list, strings.IndexRune(digits, c))
	}
	return list
}

// hypothesisOf returns the hypothesis of a text like "010,(24):1": the windows of strips and the bags of bins, node by node, and the Used.
func hypothesisOf(t *testing.T, l api.Layout, text string) api.Hypothesis {
	t.Helper()
	nodes, used, _ := strings.Cut(text, ":")
	n, err := strconv.Atoi(used)
	h := api.Hypothesis{Used: n}
	for i, word := range strings.Split(nodes, ",") {
		bags, windows := []int(nil), []int(nil)
		if in, ok := strings.CutPrefix(word, "("); ok {
			bags = numbers(strings.TrimSuffix(in, ")"))
		} else {
			windows = numbers(word)
		}
		if i >= len(l.Nodes) || len(windows) != l.Nodes[i].Length {
			t.Fatal(text)
		}
		h.Plant.Slots, h.Plant.Bins = append(h.Plant.Slots, windows), append(h.Plant.Bins, bags)
	}
	if err != nil || len(h.Plant.Slots) != len(l.Nodes) {
		t.Fatal(text)
	}
	return h
}

// beliefOf returns the belief with the hypotheses of a text.
func beliefOf(t *testing.T, l api.Layout, budget int, text string) api.Belief {
	t.Helper()
	b := api.Belief{Budget: budget}
	for _, word := range strings.Fields(text) {
		b.L = append(b.L, hypothesisOf(t, l, word))
	}
	return b
}

// textOf returns the text of the hypotheses of a belief.
func textOf(b api.Belief) string {
	var words []string
	for _, h := range b.L {
		var nodes []string
		for i, windows := range h.Plant.Slots {
			text := ""
			for _, bag := range append(slices.Clone(windows), h.Plant.Bins[i]...) {
				text += digits[bag : bag+1]
			}
			if len(windows) == 0 {
				text = "(" + text + ")"
			}
			nodes = append(nodes, text)
		}
		words = append(words, strings.Join(nodes, ",")+":"+strconv.Itoa(h.Used))
	}
	return strings.Join(words, " ")
}

func isZero(b api.Belief) bool { return b.Budget == 0 && len(b.L) == 0 }

// expect checks a belief, which has a Budget and the hypotheses of a text.
func expect(t *testing.T, b api.Belief, e api.Errno, budget int, want string) {
	t.Helper()
	if e != api.OK || b.Budget != budget || textOf(b) != want {
		t.Errorf("%d, budget %d: %s\nnot budget %d: %s", e, b.Budget, textOf(b), budget, want)
	}
}

// refuse checks that there is an error, and nothing else.
func refuse(t *testing.T, b api.Belief, e, want api.Errno) {
	t.Helper()
	if e != want || !isZero(b) {
		t.Errorf("%v, %d, not %d", b, e, want)
	}
}

// blind checks a tick without reports, where the texts are the beliefs before and after it.
func blind(t *testing.T, l api.Layout, budget int, before string, commands []int, after string) {
	t.Helper()
	b, e := Blind(l, beliefOf(t, l, budget, before), commands)
	expect(t, b, e, budget, after)
}

// reportsOf returns the reports of devices in their order from a text with a word for each: "-" sees none, "+" sees one, and any other word is read.
func reportsOf(text string) []api.Report {
	var reports []api.Report
	for i, word := range strings.Fields(text) {
		r := api.Report{Device: i, Seen: word != "-"}
		if word != "-" && word != "+" {
			r.Read = word
		}
		reports = append(reports, r)
	}
	return reports
}

// run returns the plates 0117000001, 0117000002 and so on of all bags.
func run(t *testing.T) []api.Plate {
	t.Helper()
	plates, e := plate.Run(api.Plate{Airline: 117, Serial: 1}, api.MaxBags)
	if e != api.OK {
		t.Fatal(e)
	}
	return plates
}

// step checks a tick with reports, where the commands of all nodes are 0; the text after it is empty if no hypothesis is left.
func step(t *testing.T, l api.Layout, budget int, before, reports, after string) {
	t.Helper()
	b, e := Step(l, beliefOf(t, l, budget, before), make([]int, len(l.Nodes)), run(t), reportsOf(reports))
	if after == "" {
		refuse(t, b, e, api.ErrNone)
	} else {
		expect(t, b, e, budget, after)
	}
}

func TestExamples(t *testing.T) { // P13.1, P13.2, P13.3
	l := parse(t, "entry A 3 0 > M", "manual M 0")
	b, e := New(l, 1)
	expect(t, b, e, 1, "000,():0")
	b, e = Enter(l, b, 0, 1)
	expect(t, b, e, 1, "100,():0")
	b, e = Blind(l, b, []int{0, 0})
	expect(t, b, e, 1, "001,():1 010,():0 100,():1")
	l.Devices = []api.Device{{Kind: api.DevPhotocell, Node: 0, Window: 1}}
	step(t, l, 1, "100,():0", "-", "001,():1 010,():1 100,():1")
	step(t, l, 1, "100,():0", "+", "010,():0")
}

func TestNew(t *testing.T) { // P13.1
	l := parse(t, "entry E 2 0 > L", "loop L 8 0 > L G", "gate G 1 0 > M B", "manual M 0", "belt B 3 1 > P", "store P 1 > C", "chute C 1", "photocell E 0", "scanner G 0")
	for budget := range api.MaxBudget + 1 {
		b, e := New(l, budget)
		expect(t, b, e, budget, "00,00000000,0,(),000,(),():0")
	}
	for _, budget := range []int{math.MinInt, -1, api.MaxBudget + 1, 256, 1 << 32, math.MaxInt} {
		b, e := New(l, budget)
		refuse(t, b, e, api.ErrRange)
	}
}

func TestNewWithoutLayout(t *testing.T) { // P13.1: the errors of layouts, which come first
	spoilers := map[api.Errno]func(l *api.Layout){
		api.ErrLimit:     func(l *api.Layout) { l.Devices = make([]api.Device, api.MaxDevices+1) },
		api.ErrSyntax:    func(l *api.Layout) { l.Nodes[1].Name = "" },
		api.ErrKind:      func(l *api.Layout) { l.Nodes[0].Kind = 10 },
		api.ErrRange:     func(l *api.Layout) { l.Nodes[0].Length = 9 },
		api.ErrDuplicate: func(l *api.Layout) { l.Nodes[1].Name = "A" },
		api.ErrState:     func(l *api.Layout) { l.Nodes[1].Zone = 1 },
		api.ErrMissing:   func(l *api.Layout) { l.Nodes[0].Kind = api.NodeBelt },
	}
	for want, spoil := range spoilers {
		l := parse(t, "entry A 3 0 > M", "manual M 0")
		spoil(&l)
		for _, budget := range []int{math.MinInt, -1, 0, 1, api.MaxBudget, api.MaxBudget + 1, math.MaxInt} {
			b, e := New(l, budget)
			refuse(t, b, e, want)
		}
	}
	b, e := New(api.Layout{}, 0)
	refuse(t, b, e, api.ErrMissing)
}

func TestBudgets(t *testing.T) { // P13.2: sets of faults of any size up to the budget
	l := parse(t, "entry A 4 0 > M", "manual M 0", "entry B 3 0 > M")
	none := make([]int, 3)
	blind(t, l, 0, "1000,(),200:0", none, "0100,(),020:0")
	blind(t, l, 1, "1000,(),200:0", none, "0010,(),020:1 0100,(),002:1 0100,(),020:0 0100,(),200:1 1000,(),020:1")
	blind(t, l, 2, "1000,(),200:0", none, "0010,(),002:2 0010,(),020:1 0010,(),200:2 0100,(),002:1 0100,(),020:0 0100,(),200:1 1000,(),002:2 1000,(),020:1 1000,(),200:2")
	blind(t, l, 2, "1000,(),200:1", none, "0010,(),020:2 0100,(),002:2 0100,(),020:1 0100,(),200:2 1000,(),020:2")
	blind(t, l, 2, "1000,(),200:2", none, "0100,(),020:2")
	blind(t, l, 1, "1000,(),200:1", none, "0100,(),020:1")
	blind(t, l, 2, "1000,(),000:0", none, "0010,(),000:1 0100,(),000:0 1000,(),000:1") // one fault at a window
	blind(t, l, 2, "0000,(),000:0", none, "0000,(),000:0")
	blind(t, l, 2, "0000,(123),000:0", none, "0000,(123),000:0")
}

func TestThreeBags(t *testing.T) { // P13.2: three faults are more than any budget allows
	l := parse(t, "entry A 2 0 > M", "entry B 2 0 > M", "entry C 2 0 > M", "manual M 0")
	blind(t, l, 2, "10,20,30,():0", make([]int, 4), "01,02,03,():0 01,02,30,():1 01,20,03,():1 01,20,30,():2 10,02,03,():1 10,02,30,():2 10,20,03,():2")
}

func TestOneStrip(t *testing.T) { // P13.2: faults on one strip
	l := parse(t, "entry A 6 0 > M", "manual M 0")
	c := []int{0, 0}
	blind(t, l, 2, "200100,():0", c, "002001,():2 002010,():1 002100,():2 020001,():1 020010,():0 020100,():1 200001,():2 200010,():1 200100,():2")
	blind(t, l, 2, "210000,():0", c, "200100,():1 201000,():0 210000,():1") // 2 cannot move, whatever its fault is
	blind(t, l, 2, "201000,():0", c, "020010,():1 020100,():0 021000,():1 200010,():2 200100,():1 201000,():2")
	blind(t, l, 2, "000010,():0", c, "000001,():0 000010,():1") // there is no window to slide to
	blind(t, l, 2, "000321,():0", c, "000320,(1):0 000321,():1")
	blind(t, l, 1, "000001,():0", c, "000000,(1):0 000001,():1")
	blind(t, l, 1, "000001,():0", []int{-1, 0}, "000001,():0")
}

func TestLeastUsed(t *testing.T) { // P13.2: a plant that has come about in several ways
	l := parse(t, "entry A 5 0 > M", "manual M 0")
	c := []int{0, 0}
	blind(t, l, 2, "01000,():0 10000,():1", c, "00010,():1 00100,():0 01000,():1 10000,():2")
	blind(t, l, 2, "01000,():1 10000,():0", c, "00010,():2 00100,():1 01000,():0 10000,():1")
	blind(t, l, 2, "01000,():2 10000,():0", c, "00100,():1 01000,():0 10000,():1")
	blind(t, l, 2, "00100,():2 01000,():1 10000,():0", c, "00010,():2 00100,():1 01000,():0 10000,():1")
	blind(t, l, 1, "00100,():1 01000,():0 10000,():1", c, "00010,():1 00100,():0 01000,():1")
	blind(t, l, 2, "00001,():1 00010,():0", c, "00000,(1):1 00001,():0 00010,():1")
}

func TestMerges(t *testing.T) { // P13.2: a bag that sticks leaves the way to another one
	l := parse(t, "entry A 1 0 > D", "entry B 1 0 > D", "entry C 1 0 > D", "belt D 2 0 > M", "manual M 0")
	blind(t, l, 1, "1,2,3,00,():0", make([]int, 5), "0,2,3,10,():0 1,0,3,20,():1")
	blind(t, l, 2, "1,2,3,00,():0", make([]int, 5), "0,2,3,10,():0 1,0,3,20,():1 1,2,0,30,():2")
	blind(t, l, 2, "1,2,0,00,():0", make([]int, 5), "0,2,0,10,():0 1,0,0,20,():1 1,2,0,00,():2")
	blind(t, l, 2, "1,2,3,40,():0", make([]int, 5), "1,2,3,04,():0 1,2,3,40,():1")
	blind(t, l, 2, "1,2,3,00,():0", []int{-1, 0, -1, 0, 0}, "1,0,3,20,():0 1,2,3,00,():1")
}

func TestLoops(t *testing.T) { // P13.2: a bag that does not turn lets others come in
	l := parse(t, "entry A 1 0 > L", "loop L 3 0 > L B", "belt B 1 0 > M", "manual M 0")
	blind(t, l, 1, "1,002,0,():0", make([]int, 4), "0,102,0,():1 1,200,0,():0")
	blind(t, l, 2, "1,002,0,():0", make([]int, 4), "0,102,0,():1 1,002,0,():2 1,200,0,():0")
	blind(t, l, 2, "1,002,3,():0", []int{0, 1, 0, 0}, "0,102,0,(3):1 0,102,3,():2 1,002,0,(3):2 1,200,0,(3):0 1,200,3,():1")
	blind(t, l, 2, "1,002,0,():0", []int{0, 1, 0, 0}, "0,100,2,():0 0,102,0,():1 1,000,2,():1 1,002,0,():2")
}

func TestStores(t *testing.T) { // P13.2: bags of bins have no faults
	l := parse(t, "entry A 1 0 > G", "gate G 1 0 > M P", "manual M 0", "store P 1 > B", "belt B 3 1 > C", "chute C 1")
	blind(t, l, 2, "0,0,(5),(12),000,(34):0", []int{0, 0, 0, 2, 0, 0}, "0,0,(5),(1),200,(34):0")
	blind(t, l, 2, "0,0,(5),(12),000,(34):0", []int{0, 0, 0, 9, 0, 0}, "0,0,(5),(12),000,(34):0")
	blind(t, l, 1, "0,6,(),(12),700,():0", []int{0, 1, 0, 1, 0, 0}, "0,0,(),(126),007,():1 0,0,(),(126),070,():0 0,0,(),(126),700,():1 0,6,(),(12),070,():1")
}

func TestManyBags(t *testing.T) { // P13.2, P13.5: numbers of two digits
	l := parse(t, "entry A 3 0 > M", "manual M 0")
	blind(t, l, 1, "a0D,(9zE):0", []int{0, 0}, "0a0,(9zDE):0 0aD,(9zE):1 a00,(9zDE):1")
}

func TestOrder(t *testing.T) { // terms: the order of the hypotheses
	l := parse(t, "manual M 0", "entry A 2 0 > D", "manual N 0", "diverter D 1 0 > M N")
	for _, want := range []string{
		"(),00,(),1:0 (),01,(),0:0 (),10,(),0:0", // the windows of all nodes, from the first one to the last one
		"(),12,(),0:0 (),13,(),0:0 (),20,(),1:0 (),21,(),0:0",
		"(),09,(),0:0 (),0a,(),0:0 (),0E,(),0:0 (),10,(),0:0", // numbers, not digits
		"(1),00,(),0:2 (),01,(),0:1 (),10,(),0:0",             // before the bins
		"(1),20,(),0:1 (),20,(),1:0 (1),20,(),3:1 (),21,(),0:2",
		"(),00,(12),0:0 (1),00,(2),0:0 (2),00,(1),0:0 (12),00,(),0:0",
		"(4),00,(123),0:0 (12),00,(34),0:0 (13),00,(24),0:0 (123),00,(4),0:0 (234),00,(1),0:0", // how many are in a bin before which ones
		"(9),00,(aE),0:0 (a),00,(9E),0:0 (E),00,(9a),0:0 (9a),00,(E),0:0 (9E),00,(a),0:0",
	} {
		words := strings.Fields(want)
		for i := range words { // in several orders
			mixed := strings.Join(append(slices.Clone(words[i:]), words[:i]...), " ")
			b, e := Union(beliefOf(t, l, 2, mixed), beliefOf(t, l, 2, ""))
			expect(t, b, e, 2, want)
			slices.Reverse(words)
		}
	}
}

func TestOrderAfterTicks(t *testing.T) { // terms, P13.2
	l := parse(t, "manual M 0", "entry A 2 0 > D", "manual N 0", "diverter D 1 0 > M N")
	blind(t, l, 1, "(),02,(),1:0", []int{0, 0, 0, 1}, "(),02,(1),0:0 (),02,(),1:1")
	blind(t, l, 1, "(),20,(),1:0", []int{0, 0, 0, 0}, "(1),02,(),0:0 (),02,(),1:1 (1),20,(),0:1")
}

func TestReports(t *testing.T) { // P13.2: the costs of reports
	l := parse(t, "entry A 4 0 > M", "manual M 0", "photocell A 1", "scanner A 1", "photocell A 2")
	right, none := "0117000001", "- - -"
	step(t, l, 0, "1000,():0", "+ "+right+" -", "0100,():0")
	step(t, l, 1, "1000,():0", "+ "+right+" -", "0100,():0")
	step(t, l, 2, "1000,():0", "+ "+right+" -", "0100,():0") // two devices that see a bag make three faults with the movement
	step(t, l, 2, "1000,():1", "+ "+right+" -", "0100,():1")
	step(t, l, 2, "1000,():2", "+ "+right+" -", "0100,():2")
	step(t, l, 0, "1000,():0", "+ - -", "")
	step(t, l, 1, "1000,():0", "+ - -", "0100,():1")
	step(t, l, 2, "1000,():0", "+ - -", "0100,():1 1000,():2")
	step(t, l, 2, "1000,():1", "+ - -", "0100,():2")
	step(t, l, 2, "1000,():2", "+ - -", "")
	step(t, l, 1, "1000,():0", none, "1000,():1")
	step(t, l, 2, "1000,():0", none, "0010,():2 0100,():2 1000,():1")
	step(t, l, 0, "1000,():0", none, "")
	step(t, l, 2, "1000,():0", "- - +", "0010,():1 1000,():2")
	step(t, l, 2, "1000,():0", "+ - +", "0010,():2 0100,():2")
	step(t, l, 2, "1000,():0", "+ "+right+" +", "0100,():1")
	step(t, l, 2, "1000,():0", "- "+right+" +", "0100,():2")
	step(t, l, 1, "1000,():0", "- "+right+" +", "")
}

func TestReads(t *testing.T) { // P13.2: what a scanner reads
	l := parse(t, "entry A 4 0 > M", "manual M 0", "scanner A 1")
	step(t, l, 2, "2100,():0", "0117000001", "2100,():1")
	step(t, l, 2, "2100,():0", "0117000002", "2100,():2") // 1 sticks, and a digit is wrong
	step(t, l, 2, "2100,():0", "-", "2001,():1 2010,():0 2100,():2")
	step(t, l, 2, "1000,():0", "0117000001", "0100,():0")
	step(t, l, 2, "1000,():0", "0117?00001", "0100,():1")
	step(t, l, 2, "1000,():0", "0117000002", "0100,():1")
	step(t, l, 2, "1000,():0", "0117000003", "")
	step(t, l, 2, "1000,():0", "01170000?2", "") // one device has one fault
	step(t, l, 2, "1000,():0", "??17000001", "")
	step(t, l, 2, "1000,():0", "+", "") // it reads something if it sees a bag
	step(t, l, 1, "1000,():1", "0117?00001", "")
	step(t, l, 1, "1000,():1", "0117000001", "0100,():1")
	step(t, l, 2, "2000,():0", "0117000002", "0200,():0")
	step(t, l, 2, "2000,():0", "0117000001", "")
	step(t, l, 2, "1000,():0 2000,():0", "0117000002", "0100,():1 0200,():0") // the same report can be right for one bag and wrong for another one
}

func TestCommands(t *testing.T) { // P13.2: ErrRange
	l := parse(t, "entry E 2 0 > B", "belt B 1 0 > S", "screen S 1 0 > D", "diverter D 1 0 > M L", "manual M 0", "loop L 2 0 > L G", "gate G 1 0 > N P", "manual N 0", "store P 1 > C", "chute C 1", "photocell E 0")
	least := []int{-1, -1, -1, -1, 0, 0, -1, 0, 0, 0}
	most := []int{0, 0, 0, 1, 0, 1, 1, 0, api.MaxBags, 0}
	bad := [][]int{nil, least[1:], append(slices.Clone(least), 0)}
	for i := range l.Nodes {
		for _, c := range []int{math.MinInt, least[i] - 1, most[i] + 1, math.MaxInt} {
			bad = append(bad, slices.Clone(most))
			bad[len(bad)-1][i] = c
		}
	}
	full := beliefOf(t, l, 1, "00,0,0,0,(),00,0,(),(),():0")
	for _, b := range []api.Belief{full, {}, {Budget: 2}} { // before ErrNone
		for _, c := range bad {
			next, e := Blind(l, b, c)
			refuse(t, next, e, api.ErrRange)
			for _, reports := range []string{"-", "+", "", "- -"} {
				next, e = Step(l, b, c, nil, reportsOf(reports))
				refuse(t, next, e, api.ErrRange)
			}
		}
		for _, c := range [][]int{least, most} {
			want := api.ErrNone
			if len(b.L) > 0 {
				want = api.OK
			}
			_, e := Blind(l, b, c)
			_, f := Step(l, b, c, nil, reportsOf("-"))
			if e != want || f != want {
				t.Error(b, c, e, f)
			}
		}
	}
}

func TestLists(t *testing.T) { // P13.2: ErrRange for reports
	l := parse(t, "entry A 4 0 > M", "manual M 0", "photocell A 1", "photocell A 0", "scanner A 3")
	full, right := beliefOf(t, l, 0, "1000,():0"), reportsOf("+ - -")
	if _, e := Step(l, full, []int{0, 0}, run(t), right); e != api.OK {
		t.Error(e)
	}
	bad := [][]api.Report{nil, right[:2], right[1:], reportsOf("+ - - -"), {right[1], right[0], right[2]}, {right[0], right[0], right[2]}}
	for i := range right {
		for _, device := range []int{math.MinInt, -1, i - 1, i + 1, 3, 256 + i, math.MaxInt} {
			bad = append(bad, slices.Clone(right))
			bad[len(bad)-1][i].Device = device
		}
	}
	for _, reports := range bad {
		for _, b := range []api.Belief{full, {}} { // before ErrNone
			next, e := Step(l, b, []int{0, 0}, run(t), reports)
			refuse(t, next, e, api.ErrRange)
		}
	}
	next, e := Step(l, api.Belief{}, []int{0, 0}, run(t), right)
	refuse(t, next, e, api.ErrNone)
	next, e = Blind(l, api.Belief{}, []int{0, 0})
	refuse(t, next, e, api.ErrNone)
	none := parse(t, "entry A 4 0 > M", "manual M 0") // without devices nothing is reported
	step(t, none, 1, "1000,():0", "", "0010,():1 0100,():0 1000,():1")
	next, e = Step(none, beliefOf(t, none, 1, "1000,():0"), []int{0, 0}, run(t), right[:1])
	refuse(t, next, e, api.ErrRange)
}

// wide returns a layout of many Entries and a belief with a bag in some of them, so that a tick with one fault has as many successors as asked for.
func wide(t *testing.T, successors int, devices ...string) (api.Layout, api.Belief) {
	t.Helper()
	lines, bags := []string{"manual M 0", "entry B 2 0 > M"}, (successors-1)/2
	for i := range bags {
		lines = append(lines, "entry A"+strconv.Itoa(i)+" 3 0 > M")
	}
	l := parse(t, append(lines, devices...)...)
	b, e := New(l, 1)
	for i := range bags {
		if e == api.OK {
			b, e = Enter(l, b, 2+i, 1+i)
		}
	}
	if successors%2 == 0 && e == api.OK { // no bag can slide in B
		b, e = Enter(l, b, 1, api.MaxBags)
	}
	if e != api.OK {
		t.Fatal(e)
	}
	return l, b
}

func TestLimit(t *testing.T) { // P13.2
	for _, n := range []int{1, 2, 3, api.MaxHypotheses - 1, api.MaxHypotheses, api.MaxHypotheses + 1, api.MaxHypotheses + 2} {
		l, b := wide(t, n)
		for _, tick := range []func() (api.Belief, api.Errno){
			func() (api.Belief, api.Errno) { return Blind(l, b, make([]int, len(l.Nodes))) },
			func() (api.Belief, api.Errno) { return Step(l, b, make([]int, len(l.Nodes)), run(t), nil) },
		} {
			next, e := tick()
			if n > api.MaxHypotheses {
				refuse(t, next, e, api.ErrLimit)
			} else if e != api.OK || len(next.L) != n {
				t.Error(n, len(next.L), e)
			}
		}
	}
}

func TestLimitOfReports(t *testing.T) { // P13.2: what the reports leave out does not count
	for _, c := range []struct {
		successors int
		reports    string
		left       int
	}{
		{api.MaxHypotheses + 1, "+ -", api.MaxHypotheses - 2}, // no fault of A0, and A1 does not stick
		{api.MaxHypotheses + 3, "+ -", api.MaxHypotheses},
		{api.MaxHypotheses + 4, "+ -", api.MaxHypotheses + 1},
		{api.MaxHypotheses + 1, "- -", 3}, // a fault of A0, or of its photocell
		{api.MaxHypotheses + 3, "+ +", 2},
		{api.MaxHypotheses + 1, "- +", 0},
	} {
		l, b := wide(t, c.successors, "photocell A0 1", "photocell A1 0")
		next, e := Step(l, b, make([]int, len(l.Nodes)), run(t), reportsOf(c.reports))
		switch {
		case c.left == 0:
			refuse(t, next, e, api.ErrNone)
		case c.left > api.MaxHypotheses:
			refuse(t, next, e, api.ErrLimit)
		case e != api.OK || len(next.L) != c.left:
			t.Error(c, len(next.L), e)
		}
	}
}

func TestEnter(t *testing.T) { // P13.3
	l := parse(t, "entry A 3 0 > M", "manual M 0", "entry B 1 0 > M")
	before := "001,(),0:1 010,(),0:0 100,(),0:1"
	for _, c := range []struct {
		before    string
		node, bag int
		after     string
	}{
		{before, 0, 2, "201,(),0:1 210,(),0:0"},
		{before, 0, api.MaxBags, "E01,(),0:1 E10,(),0:0"},
		{before, 2, 2, "001,(),2:1 010,(),2:0 100,(),2:1"},
		{"000,(),0:2", 2, 1, "000,(),1:2"},
		{"000,(2),3:1 003,(2),0:2 020,(1),0:0", 2, 1, "003,(2),1:2"},
		{"000,(2),3:1 003,(2),0:2 020,(1),0:0", 2, 3, "020,(1),3:0"},
		{"000,(2),3:1 003,(2),0:2 020,(1),0:0", 0, 4, "400,(2),3:1 403,(2),0:2 420,(1),0:0"},
		{"020,(2),0:0 020,(1),0:1", 2, 1, "020,(2),1:0"},
	} {
		b, e := Enter(l, beliefOf(t, l, 2, c.before), c.node, c.bag)
		expect(t, b, e, 2, c.after)
	}
}

func TestEnterErrors(t *testing.T) { // P13.3
	l := parse(t, "entry A 2 0 > B", "manual M 0", "belt B 1 0 > M", "store P 1 > C", "chute C 1")
	for _, b := range []api.Belief{beliefOf(t, l, 1, "10,(),0,(),():0 10,(),2,(),():1"), {}, {Budget: 1}} {
		for _, node := range []int{math.MinInt, -1, 5, 256, 1 << 32, math.MaxInt} {
			for _, bag := range []int{-1, 0, 1, 3, api.MaxBags + 1} {
				next, e := Enter(l, b, node, bag)
				refuse(t, next, e, api.ErrRange)
			}
		}
		for node := range l.Nodes { // before ErrKind
			for _, bag := range []int{math.MinInt, -1, 0, api.MaxBags + 1, 257, math.MaxInt} {
				next, e := Enter(l, b, node, bag)
				refuse(t, next, e, api.ErrRange)
			}
		}
		for node := 1; node < len(l.Nodes); node++ { // before ErrNone
			for _, bag := range []int{1, 2, 3, api.MaxBags} {
				next, e := Enter(l, b, node, bag)
				refuse(t, next, e, api.ErrKind)
			}
		}
		for _, bag := range []int{1, 2, 3, api.MaxBags} { // it is in the plant, or the window is not empty
			next, e := Enter(l, b, 0, bag)
			refuse(t, next, e, api.ErrNone)
		}
	}
	next, e := Enter(api.Layout{}, api.Belief{}, 0, 1)
	refuse(t, next, e, api.ErrRange)
	next, e = Enter(l, beliefOf(t, l, 1, "01,(),0,(2),(3):0"), 0, 3)
	refuse(t, next, e, api.ErrNone)
}

func TestSeen(t *testing.T) { // P13.3
	l := parse(t, "entry A 1 0 > D", "diverter D 1 0 > M N", "manual M 0", "manual N 0", "store P 1 > C", "chute C 1")
	before := "0,0,(),(1),(),(2):0 0,0,(1),(),(),(2):1 0,0,(13),(),(E),(2):2 0,1,(),(),(2),():1 2,0,(),(13),(),():0"
	for _, c := range []struct {
		node, bag int
		after     string
	}{
		{2, 1, "0,0,(1),(),(),(2):1 0,0,(13),(),(E),(2):2"},
		{2, 3, "0,0,(13),(),(E),(2):2"},
		{3, 1, "0,0,(),(1),(),(2):0 2,0,(),(13),(),():0"},
		{3, 3, "2,0,(),(13),(),():0"},
		{4, 2, "0,1,(),(),(2),():1"},
		{4, api.MaxBags, "0,0,(13),(),(E),(2):2"},
		{5, 2, "0,0,(),(1),(),(2):0 0,0,(1),(),(),(2):1 0,0,(13),(),(E),(2):2"},
	} {
		b, e := Seen(l, beliefOf(t, l, 2, before), c.node, c.bag)
		expect(t, b, e, 2, c.after)
	}
	for _, c := range [][2]int{{2, 2}, {2, 4}, {3, 2}, {4, 1}, {5, 1}, {5, api.MaxBags}} {
		b, e := Seen(l, beliefOf(t, l, 2, before), c[0], c[1])
		refuse(t, b, e, api.ErrNone)
	}
}

func TestSeenErrors(t *testing.T) { // P13.3
	l := parse(t, "entry A 1 0 > D", "diverter D 1 0 > M N", "manual M 0", "manual N 0", "store P 1 > C", "chute C 1")
	for _, b := range []api.Belief{beliefOf(t, l, 2, "1,2,(3),(4),(5),(6):0"), {}, {Budget: 1}} {
		for _, node := range []int{math.MinInt, -1, 6, 256, 1 << 32, math.MaxInt} {
			for _, bag := range []int{-1, 0, 1, 3, api.MaxBags + 1} {
				next, e := Seen(l, b, node, bag)
				refuse(t, next, e, api.ErrRange)
			}
		}
		for node := range l.Nodes { // before ErrKind
			for _, bag := range []int{math.MinInt, -1, 0, api.MaxBags + 1, 259, math.MaxInt} {
				next, e := Seen(l, b, node, bag)
				refuse(t, next, e, api.ErrRange)
			}
		}
		for node := range 2 { // before ErrNone, and also where the bag is there
			for _, bag := range []int{1, 2, 3, api.MaxBags} {
				next, e := Seen(l, b, node, bag)
				refuse(t, next, e, api.ErrKind)
			}
		}
		for node := 2; node < len(l.Nodes); node++ {
			for _, bag := range []int{1, 2, 7, api.MaxBags} {
				next, e := Seen(l, b, node, bag)
				refuse(t, next, e, api.ErrNone)
			}
		}
	}
	next, e := Seen(api.Layout{}, api.Belief{}, 0, 1)
	refuse(t, next, e, api.ErrRange)
}

func TestUnion(t *testing.T) { // P13.4
	l := parse(t, "entry A 3 0 > M", "manual M 0")
	for _, c := range [][3]string{
		{"", "", ""},
		{"100,():0", "", "100,():0"},
		{"001,():2 010,():0", "010,():1 100,():0", "001,():2 010,():0 100,():0"},
		{"010,():2 100,():2", "010,():1 100,():1", "010,():1 100,():1"},
		{"000,(1):0 100,():0", "000,(1):2 002,(1):1 010,():1", "000,(1):0 002,(1):1 010,():1 100,():0"},
		{"000,(1):1 000,(2):1", "000,():0 000,(12):0", "000,():0 000,(1):1 000,(2):1 000,(12):0"},
	} {
		for k := range 2 {
			b, e := Union(beliefOf(t, l, 2, c[k]), beliefOf(t, l, 2, c[1-k]))
			expect(t, b, e, 2, c[2])
		}
		b, e := Union(beliefOf(t, l, 2, c[2]), beliefOf(t, l, 2, c[2]))
		expect(t, b, e, 2, c[2])
	}
}

func TestUnionErrors(t *testing.T) { // P13.4
	l := parse(t, "entry A 8 0 > B", "belt B 8 0 > M", "manual M 0")
	some := func(budget, from, to int) api.Belief { // the places of two bags
		b := api.Belief{Budget: budget}
		for i := from; i < to; i++ {
			h := hypothesisOf(t, l, "00000000,00000000,():0")
			h.Plant.Slots[0][i%8], h.Plant.Slots[1][i/8] = 1, 2
			b.L = append(b.L, h)
		}
		return b
	}
	for _, budgets := range [][2]int{{0, 1}, {1, 0}, {1, 2}, {2, 0}} {
		b, e := Union(some(budgets[0], 0, 1), some(budgets[1], 0, 1))
		refuse(t, b, e, api.ErrState)
		b, e = Union(some(budgets[0], 0, 30), some(budgets[1], 20, 50)) // before ErrLimit
		refuse(t, b, e, api.ErrState)
	}
	for _, c := range [][5]int{{0, 40, 0, 40, 40}, {0, 20, 20, 40, 40}, {0, 20, 20, 41, 41}, {0, 40, 1, 40, 40}, {1, 40, 0, 40, 40}, {0, 40, 40, 41, 41}, {10, 50, 20, 50, 40}, {10, 50, 9, 50, 41}, {0, 40, 20, 60, 60}} {
		b, e := Union(some(1, c[0], c[1]), some(1, c[2], c[3]))
		switch {
		case c[4] > api.MaxHypotheses:
			refuse(t, b, e, api.ErrLimit)
		case e != api.OK || len(b.L) != c[4] || b.Budget != 1:
			t.Error(c, len(b.L), e)
		}
	}
}

func TestHas(t *testing.T) { // P13.5
	l := parse(t, "entry A 2 0 > B", "belt B 1 0 > M", "manual M 0", "manual N 0")
	b := beliefOf(t, l, 2, "00,1,(2),():1 00,2,(1),():0 10,0,(2),():2 20,0,(),(1):2")
	for _, h := range b.L {
		if n, ok := Has(b, h.Plant); !ok || n != h.Used {
			t.Error(h, n, ok)
		}
	}
	p := hypothesisOf(t, l, "00,2,(1),():9").Plant
	p.Bins[0], p.Bins[1], p.Bins[3] = []int{}, []int{}, []int{} // empty, not nil
	if n, ok := Has(b, p); !ok || n != 0 {
		t.Error(n, ok)
	}
	for _, other := range []string{"00,0,(12),():0", "00,0,(),():0", "01,0,(2),():0", "01,2,(),():0", "00,1,(),(2):0", "00,1,(2),(3):0", "00,1,(23),():0", "00,3,(2),():0"} {
		if n, ok := Has(b, hypothesisOf(t, l, other).Plant); ok || n != 0 {
			t.Error(other, n, ok)
		}
	}
	for _, q := range []api.Plant{{}, {Slots: p.Slots}, {Bins: p.Bins}, {Slots: p.Slots[:3], Bins: p.Bins}, {Slots: [][]int{{0, 0, 2}, {}, {}, {}}, Bins: p.Bins}} {
		if n, ok := Has(b, q); ok || n != 0 {
			t.Error(q, n, ok)
		}
		if n, ok := Has(api.Belief{Budget: 1}, q); ok || n != 0 {
			t.Error(q, n, ok)
		}
	}
}

func TestPlaces(t *testing.T) { // P13.5
	l := parse(t, "entry A 3 0 > D", "manual M 0", "diverter D 2 0 > M N", "manual N 0")
	b := beliefOf(t, l, 2, "000,(),01,(E):0 000,(),10,():1 000,(1),00,():2 001,(),02,():1 001,(),20,():0 012,(),00,():0 020,(),10,():2 210,(),00,():1 000,(2),00,(1):2")
	for bag, want := range map[int][]api.Place{
		1:           {{Node: 0, Window: 1}, {Node: 0, Window: 2}, {Node: 1, Window: -1}, {Node: 2, Window: 0}, {Node: 2, Window: 1}, {Node: 3, Window: -1}},
		2:           {{Node: 0, Window: 0}, {Node: 0, Window: 1}, {Node: 0, Window: 2}, {Node: 1, Window: -1}, {Node: 2, Window: 0}, {Node: 2, Window: 1}},
		api.MaxBags: {{Node: 3, Window: -1}},
		3:           nil, 0: nil, -1: nil, math.MinInt: nil, math.MaxInt: nil, 256 + 1: nil,
	} {
		if got := Places(b, bag); !slices.Equal(got, want) {
			t.Error(bag, got, want)
		}
		if got := Places(api.Belief{Budget: 2}, bag); len(got) > 0 {
			t.Error(bag, got)
		}
	}
}

func TestSure(t *testing.T) { // P13.5
	l := parse(t, "entry A 3 0 > D", "manual M 0", "diverter D 2 0 > M N", "manual N 0")
	b := beliefOf(t, l, 2, "000,(13),20,():0 005,(3),21,(4):2 010,(34),20,():1")
	for bag, want := range map[int]api.Place{2: {Node: 2, Window: 0}, 3: {Node: 1, Window: -1}} {
		if got, ok := Sure(b, bag); !ok || got != want {
			t.Error(bag, got, ok)
		}
	}
	if got, ok := Sure(beliefOf(t, l, 1, "001,(),00,():1"), 1); !ok || got != (api.Place{Node: 0, Window: 2}) {
		t.Error(got, ok)
	}
	for _, bag := range []int{1, 4, 5, 6, 0, -1, math.MinInt, math.MaxInt} { // some are not in all plants
		if got, ok := Sure(b, bag); ok || got != (api.Place{}) {
			t.Error(bag, got, ok)
		}
		if got, ok := Sure(api.Belief{}, bag); ok || got != (api.Place{}) {
			t.Error(bag, got, ok)
		}
	}
	for k := range 3 { // in all but one
		c := beliefOf(t, l, 2, "001,(),00,():0 001,(),00,():0 001,(),00,():0")
		c.L[k] = hypothesisOf(t, l, "000,(),00,():0")
		if got, ok := Sure(c, 1); ok || got != (api.Place{}) {
			t.Error(k, got, ok)
		}
	}
}

func TestAt(t *testing.T) { // P13.5
	l := parse(t, "entry A 3 0 > L", "loop L 2 0 > L M", "manual M 0", "entry B 1 0 > M")
	b := beliefOf(t, l, 2, "001,23,(4),E:0 00a,20,(),5:1 008,03,(),E:2 001,90,(4),6:1 700,03,(),5:0")
	for node, want := range [][]int{{0, 1, 8, 10}, {0, 3}, nil, {5, 6, api.MaxBags}} {
		if got := At(b, node); !slices.Equal(got, want) {
			t.Error(node, got, want)
		}
		if got := At(api.Belief{}, node); len(got) > 0 {
			t.Error(node, got)
		}
	}
	for _, node := range []int{math.MinInt, -1, 4, 256, math.MaxInt} {
		if got := At(b, node); len(got) > 0 {
			t.Error(node, got)
		}
	}
	if got := At(beliefOf(t, l, 0, "120,04,(),0:0"), 0); !slices.Equal(got, []int{0}) {
		t.Error(got)
	}
}

func TestSame(t *testing.T) { // P13.5
	l := parse(t, "entry A 2 0 > M", "manual M 0")
	beliefs := []api.Belief{{}, {Budget: 1}}
	for _, text := range []string{"00,(1):1 01,():0", "00,(1):0 01,():0", "00,(1):1 01,():1", "00,(1):1", "01,():0", "00,(2):1 01,():0", "00,(1):1 10,():0", "00,(1):1 01,():0 10,():0", "01,():0 00,(1):1"} {
		beliefs = append(beliefs, beliefOf(t, l, 1, text), beliefOf(t, l, 2, text))
	}
	for i, a := range beliefs {
		for k, b := range beliefs {
			c := api.Belief{Budget: b.Budget, L: slices.Clone(b.L)}
			for n, h := range c.L { // empty lists, not nil
				c.L[n].Plant = api.Plant{Slots: h.Plant.Slots, Bins: [][]int{{}, append([]int{}, h.Plant.Bins[1]...)}}
			}
			if Same(a, b) != (i == k) || Same(a, c) != (i == k) {
				t.Error(a, b)
			}
		}
	}
	if !Same(api.Belief{L: []api.Hypothesis{}}, api.Belief{}) {
		t.Error("an empty list is not a nil one")
	}
}
