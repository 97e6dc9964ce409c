package strip

import (
	"math"
	"slices"
	"testing"

	"baggage/api"
)

const (
	stick = api.FaultStick
	slide = api.FaultSlide
)

// advance checks one result of Advance.
func advance(t *testing.T, s, faults []int, open bool, want []int, left int) {
	t.Helper()
	if got, l := Advance(s, faults, open); !slices.Equal(got, want) || l != left {
		t.Errorf("Advance(%v, %v, %v) is %v, %d, not %v, %d", s, faults, open, got, l, want, left)
	}
}

// advanceEither checks a result of Advance in which it plays no part whether the strip is open.
func advanceEither(t *testing.T, s, faults, want []int) {
	t.Helper()
	advance(t, s, faults, true, want, 0)
	advance(t, s, faults, false, want, 0)
}

func TestExamples(t *testing.T) { // P9.1
	advance(t, []int{1, 0, 2, 0}, nil, true, []int{0, 1, 0, 2}, 0)
	advance(t, []int{1, 2, 0}, nil, true, []int{1, 0, 2}, 0)
	advance(t, []int{1, 0, 0}, []int{slide}, true, []int{0, 0, 1}, 0)
}

func TestLastWindow(t *testing.T) { // P9.1
	for _, c := range []struct {
		s, faults []int
		open      bool
		want      []int
		left      int
	}{
		{[]int{5}, nil, true, []int{0}, 5},
		{[]int{5}, nil, false, []int{5}, 0},
		{[]int{5}, []int{stick}, true, []int{5}, 0},
		{[]int{5}, []int{stick}, false, []int{5}, 0},
		{[]int{5}, []int{slide}, true, []int{0}, 5},
		{[]int{5}, []int{slide}, false, []int{5}, 0},
		{[]int{0, 0, 5}, nil, true, []int{0, 0, 0}, 5},
		{[]int{0, 0, 5}, nil, false, []int{0, 0, 5}, 0},
		{[]int{0, 0, 5}, []int{0, 0, stick}, true, []int{0, 0, 5}, 0},
		{[]int{0, 0, 5}, []int{0, stick, 0}, true, []int{0, 0, 0}, 5}, // the fault of another window
		{[]int{0, 0, 5}, []int{0, 0, slide}, true, []int{0, 0, 0}, 5},
		{[]int{1, 2, 5}, nil, true, []int{1, 2, 0}, 5}, // the others stood before a window that was not empty
		{[]int{1, 2, 5}, nil, false, []int{1, 2, 5}, 0},
		{[]int{1, 2, 5}, []int{slide, slide, slide}, true, []int{1, 2, 0}, 5},
		{[]int{1, 0, 5}, nil, true, []int{0, 1, 0}, 5},
		{[]int{1, 0, 5}, nil, false, []int{0, 1, 5}, 0},
		{[]int{0, 0}, []int{stick, stick}, true, []int{0, 0}, 0},
	} {
		advance(t, c.s, c.faults, c.open, c.want, c.left)
	}
}

func TestOtherWindows(t *testing.T) { // P9.1
	for _, c := range []struct{ s, faults, want []int }{
		{[]int{7, 0}, nil, []int{0, 7}}, // not at once out of the strip
		{[]int{7, 0, 0, 0}, nil, []int{0, 7, 0, 0}},
		{[]int{0, 7, 0, 0}, nil, []int{0, 0, 7, 0}},
		{[]int{0, 0, 7, 0}, nil, []int{0, 0, 0, 7}},
		{[]int{7, 0, 0, 0}, []int{stick}, []int{7, 0, 0, 0}},
		{[]int{0, 7, 0, 0}, []int{stick, 0, stick, stick}, []int{0, 0, 7, 0}},
		{[]int{1, 2, 3, 0}, nil, []int{1, 2, 0, 3}}, // all by the windows before the tick
		{[]int{1, 2, 3, 0}, []int{0, 0, stick}, []int{1, 2, 3, 0}},
		{[]int{1, 0, 3, 0}, []int{0, 0, stick}, []int{0, 1, 3, 0}},
		{[]int{1, 0, 3, 0}, []int{stick}, []int{1, 0, 0, 3}},
		{[]int{1, 2, 0, 0}, []int{slide, slide}, []int{1, 0, 0, 2}}, // the way of 1 was not free
		{[]int{0, 0, 0}, []int{stick, slide, 9}, []int{0, 0, 0}},
	} {
		advanceEither(t, c.s, c.faults, c.want)
	}
}

func TestSlide(t *testing.T) { // P9.1
	for _, c := range []struct{ s, faults, want []int }{
		{[]int{1, 0, 0, 0}, []int{slide}, []int{0, 0, 1, 0}},
		{[]int{0, 1, 0, 0}, []int{0, slide}, []int{0, 0, 0, 1}},
		{[]int{1, 0}, []int{slide}, []int{0, 1}}, // there is no window 2
		{[]int{0, 0, 1, 0}, []int{0, 0, slide}, []int{0, 0, 0, 1}},
		{[]int{1, 0, 2, 0}, []int{slide}, []int{0, 1, 0, 2}}, // it was not empty, though it becomes so
		{[]int{1, 0, 2, 0, 0}, []int{slide, 0, slide}, []int{0, 1, 0, 0, 2}},
		{[]int{1, 0, 2, 0, 0}, []int{slide, 0, stick}, []int{0, 1, 2, 0, 0}},
		{[]int{1, 2, 0, 0}, []int{slide}, []int{1, 0, 2, 0}},
		{[]int{1, 0, 0, 2, 0, 0}, []int{slide, 0, 0, slide}, []int{0, 0, 1, 0, 0, 2}},
		{[]int{0, 1, 0, 0, 2, 0}, []int{0, slide}, []int{0, 0, 0, 1, 0, 2}},
		{[]int{1, 0, 0, 0}, []int{0, slide, slide}, []int{0, 1, 0, 0}}, // the faults of windows without a bag
	} {
		advanceEither(t, c.s, c.faults, c.want)
	}
}

func TestOtherFaults(t *testing.T) { // the term fault
	for _, f := range []int{0, -1, -2, api.FaultMiss, api.FaultGhost, api.FaultUnread, 6, 257, 258, math.MinInt, math.MaxInt} {
		advance(t, []int{1, 0, 0, 2}, []int{f, f, f, f}, true, []int{0, 1, 0, 0}, 2)
	}
}

func TestLengthsOfFaults(t *testing.T) { // the term fault
	s := []int{1, 0, 0, 2, 0, 0, 3}
	for n := range 20 {
		want, left := []int{0, 1, 0, 0, 2, 0, 0}, 3
		if n > 0 {
			want[0], want[1] = 1, 0
		}
		if n > 3 {
			want[3], want[4] = 2, 0
		}
		if n > 6 {
			want[6], left = 3, 0
		}
		advance(t, s, slices.Repeat([]int{stick}, n), true, want, left)
	}
	further := append(make([]int, len(s)), stick, slide, stick, slide)
	advance(t, s, further, true, []int{0, 1, 0, 0, 2, 0, 0}, 3)
}

func TestNoWindows(t *testing.T) { // P9.1, P9.2
	for _, s := range [][]int{nil, {}} {
		for _, faults := range [][]int{nil, {}, {stick}, {slide, slide, slide}} {
			advanceEither(t, s, faults, nil)
		}
		push(t, s, 1, nil, false)
		push(t, s, 0, nil, false)
		inside(t, s, 0)
	}
}

func TestAnyNumbers(t *testing.T) { // the term windows
	for _, bag := range []int{1, api.MaxBags, api.MaxBags + 1, -1, -5, math.MinInt, math.MaxInt} {
		advance(t, []int{bag}, nil, true, []int{0}, bag)
		advance(t, []int{bag, 0, 0, bag}, []int{slide}, false, []int{0, 0, bag, bag}, 0)
		advance(t, []int{bag, bag, 0}, nil, true, []int{bag, 0, bag}, 0) // numbers need not differ
		advance(t, []int{3, 0, bag}, []int{slide}, true, []int{0, 3, 0}, bag)
		push(t, []int{0}, bag, []int{bag}, true)
		push(t, []int{0, bag}, bag, []int{bag, bag}, true)
		push(t, []int{bag, 0}, 3, nil, false)
		inside(t, []int{0, bag, bag, 3}, 1, 3, bag, bag)
	}
}

// push checks one result of Push.
func push(t *testing.T, s []int, bag int, want []int, ok bool) {
	t.Helper()
	if got, o := Push(s, bag); !slices.Equal(got, want) || o != ok {
		t.Errorf("Push(%v, %d) is %v, %v, not %v, %v", s, bag, got, o, want, ok)
	}
}

func TestPush(t *testing.T) { // P9.2
	push(t, []int{0}, 4, []int{4}, true)
	push(t, []int{0, 0, 0}, 4, []int{4, 0, 0}, true)
	push(t, []int{0, 5, 6}, 4, []int{4, 5, 6}, true)
	push(t, []int{0, 4, 0}, 4, []int{4, 4, 0}, true)
	push(t, []int{5}, 4, nil, false)
	push(t, []int{5, 0, 0}, 4, nil, false)
	push(t, []int{4, 0}, 4, nil, false)
	push(t, []int{0}, 0, nil, false)
	push(t, []int{0, 5}, 0, nil, false)
	push(t, []int{5, 0}, 0, nil, false)
}

// inside checks the results of Free and Bags.
func inside(t *testing.T, s []int, free int, bags ...int) {
	t.Helper()
	if got := Free(s); got != free {
		t.Errorf("Free(%v) is %d, not %d", s, got, free)
	}
	if got := Bags(s); !slices.Equal(got, bags) {
		t.Errorf("Bags(%v) is %v, not %v", s, got, bags)
	}
}

func TestFreeAndBags(t *testing.T) { // P9.2
	inside(t, []int{0}, 1)
	inside(t, []int{9}, 0, 9)
	inside(t, []int{0, 0, 0}, 3)
	inside(t, []int{1, 2, 3}, 0, 3, 2, 1)
	inside(t, []int{3, 1, 2}, 0, 2, 1, 3) // by windows, not by numbers
	inside(t, []int{1, 0, 2, 0}, 2, 2, 1)
	inside(t, []int{0, 7, 0, 0, 7, 8}, 3, 8, 7, 7)
	inside(t, []int{0, -3, 5, 0}, 2, 5, -3)
}

// judge is a second reading of P9.1: it looks for each window after the tick for the bag that comes there or stays, and fails if there are two.
func judge(t *testing.T, s, faults []int, open bool) ([]int, int) {
	t.Helper()
	n := len(s)
	moves := func(k int) bool { return s[k] != 0 && faults[k] != stick && k+1 < n && s[k+1] == 0 }
	slides := func(k int) bool { return moves(k) && faults[k] == slide && k+2 < n && s[k+2] == 0 }
	leaves := open && n > 0 && s[n-1] != 0 && faults[n-1] != stick
	after, left := make([]int, n), 0
	for w := range after {
		var found []int
		if s[w] != 0 && !moves(w) && !(w == n-1 && leaves) {
			found = append(found, s[w])
		}
		if w >= 1 && moves(w-1) && !slides(w-1) {
			found = append(found, s[w-1])
		}
		if w >= 2 && slides(w-2) {
			found = append(found, s[w-2])
		}
		if len(found) > 1 {
			t.Fatal("two bags in one window:", s, faults, open, found)
		}
		for _, bag := range found {
			after[w] = bag
		}
	}
	if leaves {
		left = s[n-1]
	}
	return after, left
}

// digits returns the n lowest digits of a number to a base.
func digits(number, base, n int) []int {
	l := make([]int, n)
	for i := range l {
		l[i], number = number%base, number/base
	}
	return l
}

// cases calls f with all strips of up to six windows and all faults of them.
func cases(f func(s, faults []int, open bool)) {
	for n, most := 0, 1; n <= 6; n, most = n+1, most*6 {
		for number := range most {
			s, faults := make([]int, n), make([]int, n)
			for k, d := range digits(number, 6, n) {
				s[k], faults[k] = d/3*(k+1), []int{0, stick, slide}[d%3]
			}
			f(s, faults, true)
			f(s, faults, false)
		}
	}
}

func TestAllShortStrips(t *testing.T) { // P9.1
	cases(func(s, faults []int, open bool) {
		want, left := judge(t, s, faults, open)
		advance(t, s, faults, open, want, left)
	})
}

func TestNoBagIsLostOrPassed(t *testing.T) { // the consequences
	cases(func(s, faults []int, open bool) {
		after, left := Advance(s, faults, open)
		bags := Bags(after)
		if left != 0 {
			bags = append([]int{left}, bags...)
		}
		if !slices.Equal(bags, Bags(s)) || Free(after)+len(Bags(after)) != len(s) {
			t.Error(s, faults, open, after, left)
		}
	})
}

func TestBagsWithEmptyWindowsInFrontMove(t *testing.T) { // the consequences
	cases(func(s, faults []int, open bool) {
		front := len(s) - 1
		for front >= 0 && s[front] == 0 {
			front--
		}
		if front < 0 || slices.ContainsFunc(faults, func(f int) bool { return f != 0 }) {
			return
		}
		after, left := Advance(s, faults, open)
		switch {
		case front < len(s)-1 && after[front+1] != s[front], front == len(s)-1 && open && left != s[front]:
			t.Error(s, open, after, left)
		}
	})
}

func TestStripRunsEmpty(t *testing.T) { // P9.1, P9.2
	s, ok := Push(make([]int, api.MaxLength), 1)
	var left []int
	put := 1
	for tick := 0; put < 20 || Free(s) < len(s); tick++ {
		if tick > 100 || !ok {
			t.Fatal(tick, ok, s)
		}
		var bag int
		s, bag = Advance(s, nil, tick%3 != 0)
		if bag != 0 {
			left = append(left, bag)
		}
		if next, free := Push(s, put+1); free && put < 20 {
			s, put = next, put+1
		}
	}
	for i, bag := range left {
		if bag != i+1 {
			t.Error("not in their order:", left)
			break
		}
	}
	if len(left) != 20 {
		t.Error(left)
	}
}

func TestLongStrips(t *testing.T) { // rule 6
	const n = 1000000
	s, faults := make([]int, n), make([]int, n)
	for k := 0; k < n; k += 4 {
		s[k], faults[k] = k+1, slide
	}
	after, left := Advance(s, faults, true)
	if left != 0 || len(after) != n || Free(after) != n-n/4 {
		t.Error(left, len(after), Free(after))
	}
	bags := Bags(after)
	if len(bags) != n/4 {
		t.Fatal(len(bags))
	}
	for i, bag := range bags {
		if want := n - 3 - 4*i; bag != want || after[bag+1] != bag {
			t.Fatal(i, bag, want)
		}
	}
	if pushed, ok := Push(after, 7); !ok || len(pushed) != n || pushed[0] != 7 {
		t.Error(ok, len(pushed))
	}
}

// spare returns a slice of numbers whose spare capacity is not zero.
func spare(numbers ...int) []int {
	n := len(numbers)
	return append(slices.Clone(numbers), 8, 8, 8)[: n : n+3]
}

func TestArgumentsAreKept(t *testing.T) { // rule 2
	for _, bags := range [][]int{{}, {0, 0}, {0, 2, 0, 3}, {1, 0, 0, 2}, {1, 2, 3}} {
		for _, list := range [][]int{{}, {slide, stick}, {slide, slide, stick, stick, stick}} {
			s, faults := spare(bags...), spare(list...)
			Advance(s, faults, true)
			Advance(s, faults, false)
			Push(s, 9)
			Push(s, 0)
			Free(s)
			Bags(s)
			if !slices.Equal(s[:cap(s)], append(slices.Clone(bags), 8, 8, 8)) || !slices.Equal(faults[:cap(faults)], append(slices.Clone(list), 8, 8, 8)) {
				t.Error(bags, list, s[:cap(s)], faults[:cap(faults)])
			}
		}
	}
}

// results returns all slices that the functions return for some arguments.
func results(s, faults []int) [][]int {
	open, _ := Advance(s, faults, true)
	closed, _ := Advance(s, faults, false)
	pushed, _ := Push(s, 9)
	return [][]int{open, closed, pushed, Bags(s)}
}

func TestResultsShareNoMemory(t *testing.T) { // rule 2
	for _, bags := range [][]int{{}, {0}, {0, 0, 0}, {5}, {0, 2, 0, 3}, {1, 0, 0, 2}} {
		s, faults := spare(bags...), spare(make([]int, len(bags))...)
		want := results(s, faults)
		for _, changed := range results(s, faults) {
			for i := range changed[:cap(changed)] {
				changed[:cap(changed)][i] = -7
			}
		}
		for _, again := range [][][]int{want, results(s, faults)} {
			if !slices.EqualFunc(again, results(spare(bags...), nil), slices.Equal) {
				t.Error(bags, again)
			}
		}
		for _, l := range [][]int{s, faults} {
			if !slices.Equal(l[len(l):cap(l)], []int{8, 8, 8}) {
				t.Error(bags, l[:cap(l)])
			}
		}
	}
}
