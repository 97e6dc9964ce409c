package early

import (
	"math"
	"slices"
	"testing"

	"baggage/api"
)

// Numbers that are no times and no bag numbers. Some of them are allowed numbers in fewer bits, and some of their sums are.
var (
	noTimes = []int{math.MinInt, math.MinInt + 1, -api.MaxTime, -2, -1, api.MaxTime + 1, api.MaxTime + 2, 1<<32 + 3, 1 << 62, math.MaxInt - 1, math.MaxInt}
	noBags  = []int{math.MinInt, -api.MaxBags, -2, -1, 0, api.MaxBags + 1, api.MaxBags + 2, 256 + 3, 1<<32 + 3, math.MaxInt}
)

// at is a stored bag: its number, and when it is due.
type at struct{ bag, due int }

func made(l ...at) []api.Stored {
	stored := make([]api.Stored, len(l))
	for i, s := range l {
		stored[i] = api.Stored{Bag: s.bag, Due: s.due}
	}
	return stored
}

func expectHold(t *testing.T, now, open, distance, margin int, want bool) {
	t.Helper()
	if got := Hold(now, open, distance, margin); got != want {
		t.Fatalf("Hold of %d, %d, %d and %d: %v, not %v", now, open, distance, margin, got, want)
	}
}

func expectRank(t *testing.T, l []api.Stored, want ...int) {
	t.Helper()
	if got := Rank(l); !slices.Equal(got, want) {
		t.Fatalf("Rank of %v: %v, not %v", l, got, want)
	}
}

func expectNext(t *testing.T, l []api.Stored, now, want int) {
	t.Helper()
	if got := Next(l, now); got != want {
		t.Fatalf("Next of %v at %d: %d, not %d", l, now, got, want)
	}
}

// expectFirst checks what Next says about a list whose first bag is due at some time: at this time, before it and after it.
func expectFirst(t *testing.T, l []api.Stored, bag, due int) {
	t.Helper()
	for _, now := range []int{due, max(due, due+1), max(due, due+1000), max(due, 0), math.MaxInt} { // the sums may be too great
		expectNext(t, l, now, bag)
	}
	for _, now := range []int{min(due, due-1), min(due, due-1000), math.MinInt} {
		if now < due {
			expectNext(t, l, now, 0)
		}
	}
}

func TestHold(t *testing.T) { // P19.1
	const most = api.MaxTime
	for _, c := range []struct {
		now, open, distance, margin int
		want                        bool
	}{
		{10, 30, 15, 4, true}, // the example
		{10, 30, 15, 5, false},
		{10, 30, 15, 6, false},
		{11, 30, 15, 4, false},
		{10, 29, 15, 4, false},
		{10, 30, 16, 4, false},
		{0, 0, 0, 0, false},
		{0, 1, 0, 0, true},
		{1, 1, 0, 0, false},
		{0, 1, 1, 0, false},
		{0, 1, 0, 1, false},
		{1, 2, 0, 0, true},
		{0, 2, 1, 0, true},
		{0, 2, 0, 1, true},
		{30, 10, 1, 1, false}, // the make-up is open
		{0, most, 0, 0, true},
		{most - 1, most, 0, 0, true},
		{0, most, most - 1, 0, true},
		{0, most, 0, most - 1, true},
		{most, most, 0, 0, false},
		{0, most, most, 0, false},
		{0, most, 0, most, false},
		{most - 2, most, 1, 0, true},
		{most - 2, most, 1, 1, false},
		{0, most, most / 2, most/2 - 1, true},
		{0, most, most / 2, most / 2, false},
		{most, most, most, most, false}, // the sum is no time
		{most, 0, most, most, false},
		{most, 1, most, most, false},
	} {
		expectHold(t, c.now, c.open, c.distance, c.margin, c.want)
	}
}

func TestHoldOfNumbersThatAreNoTimes(t *testing.T) { // P19.1
	for _, x := range noTimes {
		for _, open := range []int{0, 30, api.MaxTime} {
			expectHold(t, x, open, 0, 0, false)
			expectHold(t, 0, open, x, 0, false)
			expectHold(t, 0, open, 0, x, false)
			expectHold(t, x, open, 15, 4, false)
			expectHold(t, 10, open, x, 4, false)
			expectHold(t, 10, open, 15, x, false)
			expectHold(t, x, open, x, x, false)
			for _, y := range []int{-x, 1 - x, 20, api.MaxTime} { // the sum of both may be a time
				expectHold(t, x, open, y, 0, false)
				expectHold(t, y, open, 0, x, false)
				expectHold(t, 0, open, x, y, false)
			}
		}
		expectHold(t, 0, x, 0, 0, false)
		expectHold(t, 10, x, 15, 4, false)
		expectHold(t, x, x, 0, 0, false)
	}
	expectHold(t, -5, -1, 0, 0, false)
	expectHold(t, api.MaxTime+1, api.MaxTime+9, 0, 0, false)
	expectHold(t, 0, api.MaxTime, -1, 0, false)
	expectHold(t, 0, api.MaxTime+1, 0, api.MaxTime, false)
}

func TestLists(t *testing.T) { // P19.2
	for _, c := range []struct {
		stored []at
		rank   []int
		due    int // of the first one
	}{
		{[]at{{3, 20}, {2, 20}, {1, 25}}, []int{2, 3, 1}, 20}, // the example
		{[]at{{7, 5}}, []int{7}, 5},
		{[]at{{1, 0}}, []int{1}, 0},
		{[]at{{api.MaxBags, api.MaxTime}}, []int{api.MaxBags}, api.MaxTime},
		{[]at{{1, 2}, {2, 1}}, []int{2, 1}, 1}, // by Due, not by Bag
		{[]at{{2, 1}, {1, 2}}, []int{2, 1}, 1},
		{[]at{{1, 1}, {2, 2}}, []int{1, 2}, 1},
		{[]at{{2, 2}, {1, 1}}, []int{1, 2}, 1},
		{[]at{{9, 4}, {8, 4}, {7, 4}, {6, 4}}, []int{6, 7, 8, 9}, 4}, // equal times
		{[]at{{7, 4}, {9, 4}, {6, 4}, {8, 4}}, []int{6, 7, 8, 9}, 4},
		{[]at{{5, 9}, {5, 9}}, []int{5, 5}, 9}, // the same bag
		{[]at{{5, 9}, {5, 3}, {5, 9}}, []int{5, 5, 5}, 3},
		{[]at{{5, 9}, {6, 7}, {5, 3}, {6, 9}, {5, 9}}, []int{5, 6, 5, 5, 6}, 3},
		{[]at{{4, 1}, {4, 1}, {3, 1}, {3, 1}, {4, 0}}, []int{4, 3, 3, 4, 4}, 0},
		{[]at{{1, -3}, {2, 0}, {3, -7}}, []int{3, 1, 2}, -7}, // times of any size
		{[]at{{1, math.MaxInt}, {2, math.MinInt}, {3, 0}}, []int{2, 3, 1}, math.MinInt},
		{[]at{{2, math.MaxInt}, {1, math.MaxInt}}, []int{1, 2}, math.MaxInt},
		{[]at{{1, math.MaxInt}, {2, math.MaxInt - 1}}, []int{2, 1}, math.MaxInt - 1},
		{[]at{{2, math.MinInt}, {1, math.MinInt + 1}}, []int{2, 1}, math.MinInt},
		{[]at{{1, 1 << 32}, {2, 1}, {3, 1<<32 + 1}}, []int{2, 1, 3}, 1},
		{[]at{{1, api.MaxTime + 1}, {2, -1}}, []int{2, 1}, -1},
	} {
		l := made(c.stored...)
		expectRank(t, l, c.rank...)
		expectFirst(t, l, c.rank[0], c.due)
	}
}

func TestNext(t *testing.T) { // P19.2
	l := made(at{3, 20}, at{2, 20}, at{1, 25})
	for _, c := range []struct{ now, bag int }{{19, 0}, {20, 2}, {21, 2}, {25, 2}, {26, 2}, {0, 0}, {-1, 0}, {-20, 0}, {api.MaxTime, 2}, {api.MaxTime + 1, 2}, {math.MaxInt, 2}, {math.MinInt, 0}} {
		expectNext(t, l, c.now, c.bag)
	}
}

func TestNone(t *testing.T) { // P19.2
	for _, l := range [][]api.Stored{nil, {}, made(at{}), made(at{0, -5}, at{-1, 1}, at{api.MaxBags + 1, 1})} {
		expectRank(t, l)
		for _, now := range []int{math.MinInt, -1, 0, 1, 5, api.MaxTime, math.MaxInt} {
			expectNext(t, l, now, 0)
		}
	}
}

func TestBagNumbers(t *testing.T) { // P19.2
	for bag := 1; bag <= api.MaxBags; bag++ {
		expectRank(t, made(at{bag, 6}), bag)
		expectFirst(t, made(at{bag, 6}), bag, 6)
		for _, x := range noBags { // in each place, and due at any time
			for _, due := range []int{math.MinInt, -1, 0, 5, 6, 7, math.MaxInt} {
				for _, l := range [][]at{{{x, due}, {bag, 6}}, {{bag, 6}, {x, due}}, {{x, due}, {bag, 6}, {x, due}}} {
					expectRank(t, made(l...), bag)
					expectFirst(t, made(l...), bag, 6)
				}
			}
		}
	}
	for _, x := range noBags {
		expectRank(t, made(at{x, 6}))
		expectNext(t, made(at{x, 6}), 6, 0)
	}
}

func TestAllBags(t *testing.T) { // P19.2: each bag once, in many orders
	for step := 1; step <= api.MaxBags; step++ {
		if step%2 == 0 || step%5 == 0 { // only a step without common divisors comes to all bags
			continue
		}
		var early, same, late []api.Stored
		var ascending, descending []int
		for i := range api.MaxBags {
			bag := i*step%api.MaxBags + 1
			early = append(early, api.Stored{Bag: bag, Due: bag})
			same = append(same, api.Stored{Bag: bag, Due: 100})
			late = append(late, api.Stored{Bag: bag, Due: -bag})
			ascending = append(ascending, i+1)
			descending = append(descending, api.MaxBags-i)
		}
		expectRank(t, early, ascending...)
		expectRank(t, same, ascending...)
		expectRank(t, late, descending...)
		expectFirst(t, early, 1, 1)
		expectFirst(t, same, 1, 100)
		expectFirst(t, late, api.MaxBags, -api.MaxBags)
	}
}
