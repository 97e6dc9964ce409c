package sensor

import (
	"math"
	"slices"
	"strconv"
	"strings"
	"testing"

	"baggage/api"
	"baggage/layout"
	"baggage/plate"
)

const (
	miss   = api.FaultMiss
	ghost  = api.FaultGhost
	unseen = api.FaultUnread
	wrong  = api.FaultWrong
)

// parse returns the layout of some lines.
func parse(t *testing.T, lines ...string) api.Layout {
	t.Helper()
	l, line, e := layout.Parse(strings.Join(lines, "\n") + "\n")
	if e != api.OK {
		t.Fatal(lines, line, e)
	}
	return l
}

// plantOf returns the plant of a text like "B=010 M=49" with a digit for each window of a strip and each bag of a bin.
func plantOf(t *testing.T, l api.Layout, text string) api.Plant {
	t.Helper()
	p := api.Plant{Slots: make([][]int, len(l.Nodes)), Bins: make([][]int, len(l.Nodes))}
	for i, n := range l.Nodes {
		p.Slots[i] = make([]int, n.Length)
	}
	for _, word := range strings.Fields(text) {
		name, value, _ := strings.Cut(word, "=")
		i := layout.Find(l, name)
		if i < 0 || !layout.IsBin(l.Nodes[i]) && len(value) != l.Nodes[i].Length {
			t.Fatal(text)
		}
		var bags []int
		for _, digit := range value {
			bags = append(bags, int(digit-'0'))
		}
		if layout.IsBin(l.Nodes[i]) {
			p.Bins[i] = bags
		} else {
			p.Slots[i] = bags
		}
	}
	return p
}

// platesOf returns the plates with these texts.
func platesOf(t *testing.T, texts ...string) []api.Plate {
	t.Helper()
	var plates []api.Plate
	for _, text := range texts {
		p, e := plate.Parse(text)
		if e != api.OK {
			t.Fatal(text, e)
		}
		plates = append(plates, p)
	}
	return plates
}

// reportsOf returns the reports of devices in their order from a text with a word for each: "-" sees none, "+" sees one, and any other word is read.
func reportsOf(text string) []api.Report {
	var reports []api.Report
	for i, word := range strings.Fields(text) {
		r := api.Report{Device: i, Seen: word != "-"}
		if word != "-" && word != "+" {
			r.Read = word
		}
		reports = append(reports, r)
	}
	return reports
}

func fault(kind, device, window int) api.Fault {
	return api.Fault{Kind: kind, Node: device, Window: window}
}

// observe checks one result of Observe without an error.
func observe(t *testing.T, l api.Layout, p api.Plant, plates []api.Plate, faults []api.Fault, want string) {
	t.Helper()
	if got, e := Observe(l, p, plates, faults); e != api.OK || !slices.Equal(got, reportsOf(want)) {
		t.Errorf("%v, faults %v: %v, %d, not %s", p, faults, got, e, want)
	}
}

// refuse checks that Observe returns an error, and nothing else.
func refuse(t *testing.T, l api.Layout, p api.Plant, plates []api.Plate, want api.Errno, faults ...api.Fault) {
	t.Helper()
	if got, e := Observe(l, p, plates, faults); e != want || len(got) > 0 {
		t.Errorf("faults %v: %v, %d, not %d", faults, got, e, want)
	}
}

// cost checks one result of Cost, where -1 stands for false.
func cost(t *testing.T, l api.Layout, p api.Plant, plates []api.Plate, r api.Report, want int) {
	t.Helper()
	if n, ok := Cost(l, p, plates, r); n != max(want, 0) || ok != (want >= 0) {
		t.Errorf("%v, %+v: %d, %v, not %d", p, r, n, ok, want)
	}
}

// four returns a layout with a scanner (0) and a photocell (2) at a window with a bag, and a scanner (1) and a photocell (3) at one without; and the plates of two bags.
func four(t *testing.T) (api.Layout, api.Plant, []api.Plate) {
	t.Helper()
	l := parse(t, "entry E 2 0 > M", "manual M 0", "scanner E 0", "scanner E 1", "photocell E 0", "photocell E 1")
	return l, plantOf(t, l, "E=20 M=1"), platesOf(t, "5001000000", "0189000999")
}

func TestExamples(t *testing.T) { // P12.1, P12.2
	l := parse(t, "entry E 1 0 > M", "manual M 0", "scanner E 0", "photocell E 0")
	p, plates := plantOf(t, l, "E=1"), platesOf(t, "0117000001")
	for text, want := range map[string]int{"0117000001": 0, "0117?00001": 1, "0117000002": 1, "0117000003": -1} {
		cost(t, l, p, plates, api.Report{Seen: true, Read: text}, want)
	}
	cost(t, l, p, plates, api.Report{}, 1)
	cost(t, l, plantOf(t, l, ""), nil, api.Report{Device: 1, Seen: true}, 1)
	observe(t, l, p, plates, []api.Fault{fault(unseen, 0, 4)}, "0117?00001 +")
	observe(t, l, p, plates, []api.Fault{fault(wrong, 0, 9)}, "0117000002 +")
	observe(t, l, p, plates, []api.Fault{fault(miss, 0, 0)}, "- +")
	observe(t, l, plantOf(t, l, ""), nil, []api.Fault{fault(ghost, 1, 0)}, "- +")
}

func TestReports(t *testing.T) { // P12.1: every kind of strip, every window, and devices in any order
	l := parse(t,
		"entry E 2 0 > S",
		"screen S 1 0 > L",
		"loop L 3 0 > L G",
		"gate G 1 0 > M D",
		"manual M 0",
		"diverter D 2 1 > P B",
		"store P 1 > B",
		"belt B 8 1 > C",
		"chute C 1",
		"scanner B 7", "scanner L 2", "photocell G 0", "scanner E 1", "photocell E 1", "scanner S 0", "photocell D 0", "scanner D 0", "photocell B 0", "scanner G 0", "photocell L 2", "scanner L 0")
	plates := platesOf(t, "0001000000", "9999999999", "1234567890", "0220123456", "5050050505", "0117000001", "0117000002", "0118000001", "7777777777")
	observe(t, l, plantOf(t, l, ""), plates, nil, "- - - - - - - - - - - -")
	observe(t, l, plantOf(t, l, "M=12 P=345 C=6789"), plates, nil, "- - - - - - - - - - - -")
	observe(t, l, plantOf(t, l, "B=00000001"), plates, nil, "0001000000 - - - - - - - - - - -")
	observe(t, l, plantOf(t, l, "B=10000020"), plates, nil, "- - - - - - - - + - - -")
	observe(t, l, plantOf(t, l, "E=10 L=020 D=03"), plates, nil, "- - - - - - - - - - - -") // no device is there
	observe(t, l, plantOf(t, l, "E=01 S=2 L=304 G=5 D=67 B=80000009"), plates, nil,
		"7777777777 0220123456 + 0001000000 + 9999999999 + 0117000001 + 5050050505 + 1234567890")
	none := parse(t, "entry E 1 0 > M", "manual M 0")
	observe(t, none, plantOf(t, none, "E=1"), plates, nil, "")
}

func TestBagNumbers(t *testing.T) { // P12.1, P12.2: the plate of the bag b is the element b-1
	l, p, _ := four(t)
	plates, e := plate.Run(api.Plate{Lead: 1, Airline: 220, Serial: 999980}, api.MaxBags)
	if e != api.OK {
		t.Fatal(e)
	}
	for bag := 1; bag <= api.MaxBags; bag++ {
		p.Slots[0] = []int{bag, 0}
		text := plate.Format(plates[bag-1])
		observe(t, l, p, plates, nil, text+" - + -")
		observe(t, l, p, plates[:bag], nil, text+" - + -")
		cost(t, l, p, plates, api.Report{Seen: true, Read: text}, 0)
	}
}

func TestFaults(t *testing.T) { // P12.1
	l, p, plates := four(t)
	observe(t, l, p, plates, nil, "0189000999 - + -")
	for _, c := range []struct {
		fault api.Fault
		want  string
	}{
		{fault(miss, 0, 0), "- - + -"},
		{fault(miss, 2, 0), "0189000999 - - -"},
		{fault(ghost, 3, 0), "0189000999 - + +"},
		{fault(unseen, 0, 0), "?189000999 - + -"},
		{fault(unseen, 0, 1), "0?89000999 - + -"},
		{fault(unseen, 0, 5), "01890?0999 - + -"},
		{fault(unseen, 0, 9), "018900099? - + -"},
		{fault(wrong, 0, 0), "1189000999 - + -"},
		{fault(wrong, 0, 2), "0199000999 - + -"},
		{fault(wrong, 0, 3), "0180000999 - + -"}, // nothing is carried
		{fault(wrong, 0, 7), "0189000099 - + -"},
		{fault(wrong, 0, 9), "0189000990 - + -"},
	} {
		observe(t, l, p, plates, []api.Fault{c.fault}, c.want)
	}
}

func TestEveryDigit(t *testing.T) { // P12.1, P12.2: every digit in every place
	l, p, _ := four(t)
	for digit := range 10 {
		text := strings.Repeat(strconv.Itoa(digit), 10)
		if digit == 0 {
			text = "0001000000"
		}
		plates := platesOf(t, "0001000000", text)
		for k := range 10 {
			next := strconv.Itoa((int(text[k]-'0') + 1) % 10)
			for kind, c := range map[int]string{unseen: "?", wrong: next} {
				read := text[:k] + c + text[k+1:]
				observe(t, l, p, plates, []api.Fault{fault(kind, 0, k)}, read+" - + -")
				cost(t, l, p, plates, api.Report{Seen: true, Read: read}, 1)
			}
		}
	}
}

func TestWrongPlates(t *testing.T) { // P12.1, P12.2: what is read need not be the text of a valid plate
	l, p, _ := four(t)
	plates := platesOf(t, "0001000000", "0009000123")
	observe(t, l, p, plates, []api.Fault{fault(wrong, 0, 3)}, "0000000123 - + -")
	cost(t, l, p, plates, api.Report{Seen: true, Read: "0000000123"}, 1)
	cost(t, l, p, plates, api.Report{Seen: true, Read: "0010000123"}, -1)
}

func TestManyFaults(t *testing.T) { // P12.1: faults of different devices, in any order
	l := parse(t, "entry E 3 0 > B", "belt B 2 0 > M", "manual M 0", "scanner E 0", "scanner E 1", "scanner E 2", "photocell E 2", "photocell B 0", "scanner B 1")
	p, plates := plantOf(t, l, "E=123 B=04"), platesOf(t, "0117000001", "0117000002", "0117000003", "0117000004")
	faults := []api.Fault{fault(unseen, 0, 3), fault(wrong, 5, 9), fault(ghost, 4, 0), fault(miss, 2, 0)}
	if len(faults) != api.MaxFaults {
		t.Error("not the greatest number of faults")
	}
	for range faults {
		faults = append(faults[1:], faults[0])
		observe(t, l, p, plates, faults, "011?000001 0117000002 - + + 0117000005")
	}
	slices.Reverse(faults)
	observe(t, l, p, plates, faults, "011?000001 0117000002 - + + 0117000005")
}

func TestKinds(t *testing.T) { // P12.1
	l, p, plates := four(t)
	for _, kind := range []int{math.MinInt, -3, -1, 0, api.FaultStick, api.FaultSlide, 7, 256 + miss, 1<<32 + miss, math.MaxInt} {
		refuse(t, l, p, plates, api.ErrKind, fault(kind, 0, 0))
		refuse(t, l, p, plates, api.ErrKind, fault(kind, -1, 99)) // before ErrRange
	}
}

func TestRanges(t *testing.T) { // P12.1
	l, p, plates := four(t)
	for _, kind := range []int{miss, ghost, unseen, wrong} {
		for _, device := range []int{math.MinInt, -1, 4, 5, 256, 1 << 32, math.MaxInt} {
			refuse(t, l, p, plates, api.ErrRange, fault(kind, device, 0))
		}
		for device := range l.Devices { // before ErrState
			for _, window := range []int{math.MinInt, -1, 10, 256, 1 << 32, math.MaxInt} {
				refuse(t, l, p, plates, api.ErrRange, fault(kind, device, window))
			}
			for window := 1; window <= 9 && (kind == miss || kind == ghost); window++ {
				refuse(t, l, p, plates, api.ErrRange, fault(kind, device, window))
			}
		}
	}
	none := parse(t, "entry E 1 0 > M", "manual M 0")
	refuse(t, none, plantOf(t, none, "E=1"), plates, api.ErrRange, fault(miss, 0, 0))
}

func TestImpossible(t *testing.T) { // P12.1
	l, p, plates := four(t)
	possible := map[api.Fault]bool{fault(miss, 0, 0): true, fault(miss, 2, 0): true, fault(ghost, 3, 0): true}
	for k := range 10 {
		possible[fault(unseen, 0, k)], possible[fault(wrong, 0, k)] = true, true
	}
	for device := range l.Devices {
		for kind := miss; kind <= wrong; kind++ {
			for window := range 10 {
				f := fault(kind, device, window)
				if window > 0 && kind < unseen || possible[f] {
					continue
				}
				refuse(t, l, p, plates, api.ErrState, f)
			}
		}
	}
	for f := range possible {
		if _, e := Observe(l, p, plates, []api.Fault{f}); e != api.OK {
			t.Error(f, e)
		}
	}
}

func TestDuplicates(t *testing.T) { // P12.1
	l, p, plates := four(t)
	refuse(t, l, p, plates, api.ErrDuplicate, fault(miss, 0, 0), fault(miss, 0, 0))
	refuse(t, l, p, plates, api.ErrDuplicate, fault(miss, 0, 0), fault(unseen, 0, 3))
	refuse(t, l, p, plates, api.ErrDuplicate, fault(unseen, 0, 3), fault(miss, 0, 0))
	refuse(t, l, p, plates, api.ErrDuplicate, fault(unseen, 0, 3), fault(unseen, 0, 4))
	refuse(t, l, p, plates, api.ErrDuplicate, fault(unseen, 0, 3), fault(wrong, 0, 3))
	refuse(t, l, p, plates, api.ErrDuplicate, fault(ghost, 3, 0), fault(ghost, 3, 0))
	refuse(t, l, p, plates, api.ErrDuplicate, fault(miss, 2, 0), fault(miss, 0, 0), fault(ghost, 3, 0), fault(wrong, 0, 1))
	refuse(t, l, p, plates, api.ErrDuplicate, fault(miss, 2, 0), fault(ghost, 3, 0), fault(miss, 2, 0))
	refuse(t, l, p, plates, api.ErrDuplicate, fault(ghost, 3, 0), fault(miss, 2, 0), fault(miss, 2, 0), fault(miss, 0, 0))
	refuse(t, l, p, plates, api.ErrState, fault(ghost, 3, 0), fault(miss, 3, 0)) // a ghost is no bag
	refuse(t, l, p, plates, api.ErrState, fault(miss, 2, 0), fault(ghost, 2, 0))
}

func TestOrderOfErrors(t *testing.T) { // P12.1
	l, p, plates := four(t)
	good, kind, far, state := fault(miss, 0, 0), fault(api.FaultStick, 0, 0), fault(miss, 4, 0), fault(ghost, 0, 0)
	refuse(t, l, p, plates, api.ErrLimit, good, good, good, good, good)
	refuse(t, l, p, plates, api.ErrLimit, kind, far, state, good, good)
	refuse(t, l, p, plates, api.ErrLimit, fault(miss, 0, 0), fault(miss, 2, 0), fault(ghost, 3, 0), far, kind)
	refuse(t, l, p, plates, api.ErrKind, kind, far, state, good)
	refuse(t, l, p, plates, api.ErrRange, far, kind, state, good)
	refuse(t, l, p, plates, api.ErrState, state, far, kind, good)
	refuse(t, l, p, plates, api.ErrKind, good, kind, far)
	refuse(t, l, p, plates, api.ErrRange, good, far, state)
	refuse(t, l, p, plates, api.ErrState, good, state, kind)
	refuse(t, l, p, plates, api.ErrKind, good, good, kind) // before ErrDuplicate
	refuse(t, l, p, plates, api.ErrRange, good, good, far)
	refuse(t, l, p, plates, api.ErrState, good, good, state)
	refuse(t, l, p, plates, api.ErrDuplicate, good, good)
}

func TestCost(t *testing.T) { // P12.2
	l, p, plates := four(t)
	for _, c := range []struct {
		r    api.Report
		want int
	}{
		{api.Report{Seen: true, Read: "0189000999"}, 0},
		{api.Report{}, 1},
		{api.Report{Seen: true, Read: "0189000?99"}, 1},
		{api.Report{Seen: true, Read: "0180000999"}, 1},
		{api.Report{Seen: true, Read: "018900?0999"}, -1},
		{api.Report{Seen: true, Read: "0189?00?99"}, -1},
		{api.Report{Seen: true, Read: "1289000999"}, -1},
		{api.Report{Seen: true, Read: "0189?00990"}, -1},
		{api.Report{Seen: true, Read: "0189000998"}, -1}, // the digit before
		{api.Report{Seen: true, Read: "0190000999"}, -1}, // carried
		{api.Report{Seen: true}, -1},
		{api.Report{Read: "0189000999"}, -1},
		{api.Report{Read: "0189?00999"}, -1},
		{api.Report{Seen: true, Read: "5001000000"}, -1}, // another bag
		{api.Report{Device: 1}, 0},
		{api.Report{Device: 1, Seen: true}, -1}, // scanners see no ghosts
		{api.Report{Device: 1, Seen: true, Read: "0189000999"}, -1},
		{api.Report{Device: 1, Seen: true, Read: "5001000000"}, -1},
		{api.Report{Device: 1, Read: "0189000999"}, -1},
		{api.Report{Device: 1, Read: "?"}, -1},
		{api.Report{Device: 2, Seen: true}, 0},
		{api.Report{Device: 2}, 1},
		{api.Report{Device: 2, Seen: true, Read: "0189000999"}, -1},
		{api.Report{Device: 2, Seen: true, Read: "?189000999"}, -1},
		{api.Report{Device: 2, Read: "0189000999"}, -1},
		{api.Report{Device: 3}, 0},
		{api.Report{Device: 3, Seen: true}, 1},
		{api.Report{Device: 3, Seen: true, Read: "0189000999"}, -1},
		{api.Report{Device: 3, Seen: true, Read: "?"}, -1},
		{api.Report{Device: 3, Read: "?"}, -1},
	} {
		cost(t, l, p, plates, c.r, c.want)
	}
}

func TestCostOfNoDevice(t *testing.T) { // P12.2
	l, p, plates := four(t)
	for _, device := range []int{math.MinInt, -4, -1, 4, 5, 256, 1 << 32, math.MaxInt} {
		for _, r := range []api.Report{{Device: device}, {Device: device, Seen: true}, {Device: device, Seen: true, Read: "0189000999"}} {
			cost(t, l, p, plates, r, -1)
			cost(t, api.Layout{}, api.Plant{}, nil, r, -1)
		}
	}
	cost(t, api.Layout{}, api.Plant{}, nil, api.Report{}, -1)
}

func TestEveryByte(t *testing.T) { // P12.2: every byte changed, left out or put in
	l, p, plates := four(t)
	text := "0189000999"
	for k := range len(text) {
		for b := range 256 {
			want := -1
			switch c := byte(b); {
			case c == text[k]:
				want = 0
			case c == '?', c == '0'+(text[k]-'0'+1)%10:
				want = 1
			}
			cost(t, l, p, plates, api.Report{Seen: true, Read: text[:k] + string([]byte{byte(b)}) + text[k+1:]}, want)
			cost(t, l, p, plates, api.Report{Seen: true, Read: text[:k] + string([]byte{byte(b)}) + text[k:]}, -1)
		}
		cost(t, l, p, plates, api.Report{Seen: true, Read: text[:k]}, -1)
		cost(t, l, p, plates, api.Report{Seen: true, Read: text[k+1:]}, -1)
	}
	for _, end := range []string{"\x00", "\n", " ", "0", "?"} {
		cost(t, l, p, plates, api.Report{Seen: true, Read: text + end}, -1)
		cost(t, l, p, plates, api.Report{Seen: true, Read: end + text}, -1)
	}
	cost(t, l, p, plates, api.Report{Seen: true, Read: strings.Repeat(text, 100000)}, -1)
}

func TestPairsOfDigits(t *testing.T) { // P12.2: two digits that each one fault explains
	l, p, plates := four(t)
	text := "0189000999"
	for a := range len(text) {
		for b := range a {
			for _, first := range []string{"?", strconv.Itoa(int(text[a]-'0'+1) % 10)} {
				for _, second := range []string{"?", strconv.Itoa(int(text[b]-'0'+1) % 10)} {
					read := text[:b] + second + text[b+1:a] + first + text[a+1:]
					cost(t, l, p, plates, api.Report{Seen: true, Read: read}, -1)
				}
			}
		}
	}
}

func TestSameFaultForTwoPlates(t *testing.T) { // P12.2, the consequences
	l := parse(t, "entry E 1 0 > M", "manual M 0", "scanner E 0")
	plates := platesOf(t, "0117000001", "0117500001", "0118000001", "0116000001", "0117010001")
	for bag, c := range []struct{ unread, read int }{{1, 0}, {1, -1}, {-1, -1}, {-1, 1}, {-1, -1}} {
		p := api.Plant{Slots: [][]int{{bag + 1}, nil}, Bins: [][]int{nil, nil}}
		cost(t, l, p, plates, api.Report{Seen: true, Read: "0117?00001"}, c.unread)
		cost(t, l, p, plates, api.Report{Seen: true, Read: "0117000001"}, c.read)
	}
}

func TestEqualPlates(t *testing.T) { // P12.1, P12.2: two bags may have one plate
	l := parse(t, "entry E 2 0 > M", "manual M 0", "scanner E 0", "scanner E 1")
	p, plates := plantOf(t, l, "E=12"), platesOf(t, "0117000001", "0117000001")
	observe(t, l, p, plates, []api.Fault{fault(unseen, 1, 0)}, "0117000001 ?117000001")
	cost(t, l, p, plates, api.Report{Device: 1, Seen: true, Read: "0117000001"}, 0)
}
