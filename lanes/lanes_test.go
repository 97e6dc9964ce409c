package lanes

import (
	"math"
	"slices"
	"testing"

	"baggage/api"
)

// Numbers that are no times, no bags, and no numbers of lanes or depths. Some of them are allowed numbers in fewer bits.
var (
	noTimes = []int{math.MinInt, -api.MaxTime, -1, api.MaxTime + 1, api.MaxTime + 2, 1<<32 + 3, math.MaxInt}
	noBags  = []int{math.MinInt, -api.MaxBags, -1, 0, api.MaxBags + 1, api.MaxBags + 2, 256 + 3, 1<<32 + 3, math.MaxInt}
	noSizes = []int{math.MinInt, -api.MaxDepth, -1, 0, api.MaxDepth + 1, api.MaxDepth + 2, 256 + 3, 1<<32 + 3, math.MaxInt}
)

// repeat returns a list of n equal numbers.
func repeat(n, x int) []int {
	return slices.Repeat([]int{x}, n)
}

// ascending returns the numbers from 0 to n-1.
func ascending(n int) []int {
	l := make([]int, n)
	for i := range l {
		l[i] = i
	}
	return l
}

// descending returns the numbers from n-1 to 0.
func descending(n int) []int {
	l := ascending(n)
	slices.Reverse(l)
	return l
}

// expect checks what all functions say of a valid list.
func expect(t *testing.T, due, lanes, chain []int) {
	t.Helper()
	if got, e := Assign(due); e != api.OK || !slices.Equal(got, lanes) {
		t.Fatalf("Assign of %v: %v, %d, not %v", due, got, e, lanes)
	}
	if got := Count(due); got != len(chain) {
		t.Fatalf("Count of %v: %d, not %d", due, got, len(chain))
	}
	if got := Chain(due); !slices.Equal(got, chain) {
		t.Fatalf("Chain of %v: %v, not %v", due, got, chain)
	}
	expectCheck(t, due, lanes, api.OK)
}

func expectCheck(t *testing.T, due, lanes []int, want api.Errno) {
	t.Helper()
	if e := Check(due, lanes); e != want {
		t.Fatalf("Check of %v, %v: %d, not %d", due, lanes, e, want)
	}
}

// refuse checks what all functions say of a list that is not valid.
func refuse(t *testing.T, due []int, want api.Errno) {
	t.Helper()
	if lanes, e := Assign(due); e != want || len(lanes) > 0 {
		t.Errorf("Assign: %v, %d, not the error %d", lanes, e, want)
	}
	if n, chain := Count(due), Chain(due); n != 0 || len(chain) > 0 {
		t.Errorf("not valid, but %d lanes, and the chain %v", n, chain)
	}
	for _, lanes := range [][]int{ascending(len(due)), repeat(len(due), 0), repeat(len(due), -1), nil, {0}} { // some are wrong as well
		expectCheck(t, due, lanes, want)
	}
}

func TestAssignments(t *testing.T) { // P17.1, P17.2
	for _, c := range []struct{ due, lanes, chain []int }{
		{nil, nil, nil},
		{[]int{5, 3, 4, 1}, []int{0, 1, 1, 2}, []int{0, 2, 3}}, // the example
		{[]int{0}, []int{0}, []int{0}},
		{[]int{api.MaxTime}, []int{0}, []int{0}},
		{[]int{4, 4}, []int{0, 0}, []int{0}},
		{[]int{4, 5}, []int{0, 0}, []int{0}},
		{[]int{4, 3}, []int{0, 1}, []int{0, 1}},
		{[]int{0, api.MaxTime, 0, api.MaxTime}, []int{0, 0, 1, 0}, []int{1, 2}},
		{[]int{9, 6, 3, 6}, []int{0, 1, 2, 1}, []int{0, 1, 2}},                  // the greatest one that is not greater, though it is not the last lane
		{[]int{9, 6, 3, 8}, []int{0, 1, 2, 1}, []int{0, 1, 2}},                  // the same, where it is less
		{[]int{9, 6, 3, 9}, []int{0, 1, 2, 0}, []int{0, 1, 2}},                  // the first lane
		{[]int{9, 6, 3, 5}, []int{0, 1, 2, 2}, []int{0, 1, 2}},                  // the last lane
		{[]int{9, 6, 3, 2}, []int{0, 1, 2, 3}, []int{0, 1, 2, 3}},               // none
		{[]int{9, 6, 7, 3}, []int{0, 1, 1, 2}, []int{0, 2, 3}},                  // behind a bag that is not the first of its lane
		{[]int{9, 6, 3, 7, 4}, []int{0, 1, 2, 1, 2}, []int{0, 1, 2}},            // what comes behind the last bag of the chain does not count
		{[]int{9, 8, 12, 7, 11, 2}, []int{0, 1, 0, 2, 1, 3}, []int{0, 1, 3, 5}}, // nor do bags that came behind the next one of the chain
		{[]int{9, 8, 7, 8, 7, 7, 6, 1}, []int{0, 1, 2, 1, 2, 2, 3, 4}, []int{0, 3, 5, 6, 7}},
		{[]int{3, 2, 1, 6, 5, 4}, []int{0, 1, 2, 0, 1, 2}, []int{0, 1, 2}},             // the second three fit behind the first three
		{[]int{2, 4, 1, 3, 0, 5}, []int{0, 0, 1, 1, 2, 0}, []int{1, 3, 4}},             // only the last bag of the chain is the first of its lane
		{[]int{1, 1, 0, 0, 1, 0}, []int{0, 0, 1, 1, 0, 1}, []int{1, 2}},                // the newest of equal ones
		{[]int{5, 7, 7, 6, 6, 5, 5, 5}, []int{0, 0, 0, 1, 1, 2, 2, 2}, []int{2, 4, 5}}, // again
	} {
		expect(t, c.due, c.lanes, c.chain)
	}
}

func TestLongLists(t *testing.T) { // P17.1, P17.2: up to the limit
	for _, n := range []int{1, 2, 3, 100, api.MaxStored - 1, api.MaxStored} {
		expect(t, ascending(n), repeat(n, 0), []int{0})
		expect(t, repeat(n, 7), repeat(n, 0), []int{0})
		expect(t, repeat(n, 0), repeat(n, 0), []int{0})
		expect(t, repeat(n, api.MaxTime), repeat(n, 0), []int{0})
		expect(t, descending(n), ascending(n), ascending(n))
		high := descending(n)
		for i := range high {
			high[i] += api.MaxTime - n + 1
		}
		expect(t, high, ascending(n), ascending(n))
	}
}

func TestErrorsOfLists(t *testing.T) { // P17.1, P17.2, P17.3
	for n := api.MaxStored + 1; n < api.MaxStored+400; n += 57 {
		refuse(t, ascending(n), api.ErrLimit)
		refuse(t, descending(n), api.ErrLimit)
		refuse(t, repeat(n, 0), api.ErrLimit)
		refuse(t, repeat(n, -1), api.ErrLimit) // both errors
		refuse(t, append(repeat(n-1, 0), api.MaxTime+1), api.ErrLimit)
	}
	for _, x := range noTimes {
		refuse(t, []int{x}, api.ErrRange)
		refuse(t, repeat(api.MaxStored, x), api.ErrRange)
		for _, n := range []int{1, 2, 3, api.MaxStored} { // in each place
			for i := range n {
				due := repeat(n, 4)
				due[i] = x
				refuse(t, due, api.ErrRange)
			}
		}
	}
}

func TestCheck(t *testing.T) { // P17.3
	due := []int{5, 3, 4, 1}
	for _, c := range []struct {
		due, lanes []int
		e          api.Errno
	}{
		{nil, nil, api.OK},
		{due, []int{0, 1, 1, 2}, api.OK},
		{due, []int{2, 0, 0, 1}, api.OK}, // any numbers
		{due, []int{0, 1, 2, 3}, api.OK}, // more lanes than needed
		{due, []int{math.MaxInt, 199, 199, 200}, api.OK},
		{due, []int{1 << 32, 0, 0, 1 << 33}, api.OK},
		{due, []int{0, 0, 1, 2}, api.ErrOrder},
		{due, []int{0, 1, 0, 2}, api.ErrOrder},
		{due, []int{0, 1, 2, 0}, api.ErrOrder},
		{due, []int{0, 1, 2, 1}, api.ErrOrder},
		{due, []int{0, 1, 2, 2}, api.ErrOrder},
		{due, []int{0, 1, 1, 1}, api.ErrOrder},
		{due, []int{0, 0, 0, 0}, api.ErrOrder},
		{due, []int{math.MaxInt, 0, 0, math.MaxInt}, api.ErrOrder},
		{due, nil, api.ErrRange},
		{due, []int{0}, api.ErrRange},
		{due, []int{0, 1, 1}, api.ErrRange},
		{due, []int{0, 1, 1, 2, 2}, api.ErrRange},
		{due, []int{0, 0, 0}, api.ErrRange}, // not good as well
		{due, []int{0, 0, 0, 0, 0}, api.ErrRange},
		{due, []int{-1, 0, 0, 1}, api.ErrRange},
		{due, []int{0, -1, -2, 1}, api.ErrRange},
		{due, []int{0, 1, 1, -1}, api.ErrRange},
		{due, []int{0, 1, 1, math.MinInt}, api.ErrRange},
		{due, []int{0, 0, 0, -1}, api.ErrRange},
		{nil, []int{0}, api.ErrRange},
		{nil, []int{-1}, api.ErrRange},
		{[]int{0, 0}, []int{3, 3}, api.OK}, // equal times
		{[]int{4, 4, 4}, []int{0, 0, 0}, api.OK},
		{[]int{0}, []int{9}, api.OK},
		{[]int{1, 0}, []int{0, 0}, api.ErrOrder},
		{[]int{api.MaxTime, api.MaxTime - 1}, []int{7, 7}, api.ErrOrder},
		{[]int{3, 9, 8, 5}, []int{1, 0, 0, 1}, api.ErrOrder},       // a lane whose first bag is not due later
		{[]int{3, 9, 1, 5, 4}, []int{0, 1, 2, 0, 0}, api.ErrOrder}, // not directly one behind the other
		{[]int{3, 9, 1, 5, 3}, []int{0, 1, 2, 0, 2}, api.OK},
	} {
		expectCheck(t, c.due, c.lanes, c.e)
	}
	expectCheck(t, ascending(api.MaxStored), repeat(api.MaxStored, 199), api.OK)
	expectCheck(t, descending(api.MaxStored), repeat(api.MaxStored, 199), api.ErrOrder)
	expectCheck(t, ascending(api.MaxStored), repeat(api.MaxStored-1, 0), api.ErrRange)
	expectCheck(t, ascending(api.MaxStored), repeat(api.MaxStored+1, 0), api.ErrRange)
}

// empty returns an empty store.
func empty(t *testing.T, lanes, depth int) api.Lanes {
	t.Helper()
	x, e := New(lanes, depth)
	if e != api.OK {
		t.Fatal(lanes, depth, e)
	}
	return x
}

func TestNew(t *testing.T) { // P17.4
	for lanes := 1; lanes <= api.MaxDepth; lanes++ {
		for depth := 1; depth <= api.MaxDepth; depth++ {
			x := empty(t, lanes, depth)
			if x.Depth != depth || len(x.L) != lanes || len(slices.Concat(x.L...)) > 0 {
				t.Fatal(lanes, depth, x)
			}
		}
	}
	for _, n := range noSizes {
		for _, m := range append([]int{1, 5, api.MaxDepth}, noSizes...) {
			refuseNew(t, n, m)
			refuseNew(t, m, n)
		}
	}
}

func refuseNew(t *testing.T, lanes, depth int) {
	t.Helper()
	if x, e := New(lanes, depth); e != api.ErrRange || len(x.L) > 0 || x.Depth != 0 {
		t.Error(lanes, depth, x, e)
	}
}

// same reports whether two stores are equal.
func same(x, y api.Lanes) bool {
	return x.Depth == y.Depth && slices.EqualFunc(x.L, y.L, slices.Equal)
}

// copied returns a store that shares no memory.
func copied(x api.Lanes) api.Lanes {
	y := api.Lanes{Depth: x.Depth, L: make([][]api.Stored, len(x.L))}
	for i, l := range x.L {
		y.L[i] = append(y.L[i], l...)
	}
	return y
}

// put is a bag that is put into a store: its number, its due time, and the lane where it should go.
type put struct{ bag, due, lane int }

// fill puts bags into a store.
func fill(t *testing.T, x api.Lanes, puts ...put) api.Lanes {
	t.Helper()
	for _, p := range puts {
		s := api.Stored{Bag: p.bag, Due: p.due}
		want := copied(x)
		want.L[p.lane] = append(want.L[p.lane], s)
		y, lane, e := Put(x, s)
		if e != api.OK || lane != p.lane || !same(y, want) {
			t.Fatalf("%v into %v: %v, %d, %d, not the lane %d", s, x, y, lane, e, p.lane)
		}
		x = y
	}
	return x
}

// refusePut checks that a bag cannot be put into a store.
func refusePut(t *testing.T, x api.Lanes, bag, due int, want api.Errno) {
	t.Helper()
	y, lane, e := Put(x, api.Stored{Bag: bag, Due: due})
	if e != want || lane != 0 || y.Depth != 0 || len(y.L) > 0 {
		t.Errorf("bag %d, due %d: %v, %d, %d, not the error %d", bag, due, y, lane, e, want)
	}
}

// take takes a bag out of a store, together with the bags before it.
func take(t *testing.T, x api.Lanes, bag int, before ...int) api.Lanes {
	t.Helper()
	y, got, e := Take(x, bag)
	if e != api.OK || !slices.Equal(got, before) {
		t.Fatalf("%d out of %v: %v, %v, %d, not %v", bag, x, y, got, e, before)
	}
	return y
}

// refuseTake checks that a bag is not in a store.
func refuseTake(t *testing.T, x api.Lanes, bag int) {
	t.Helper()
	if y, before, e := Take(x, bag); e != api.ErrMissing || len(before) > 0 || y.Depth != 0 || len(y.L) > 0 {
		t.Errorf("bag %d: %v, %v, %d", bag, y, before, e)
	}
}

// bags returns the bags of each lane.
func bags(x api.Lanes) [][]int {
	all := make([][]int, len(x.L))
	for i, l := range x.L {
		for _, s := range l {
			all[i] = append(all[i], s.Bag)
		}
	}
	return all
}

func expectBags(t *testing.T, x api.Lanes, want ...[]int) {
	t.Helper()
	if got := bags(x); !slices.EqualFunc(got, want, slices.Equal) {
		t.Fatalf("%v, not %v", got, want)
	}
}

func TestPut(t *testing.T) { // P17.5: each choice
	x := fill(t, empty(t, 3, 3), put{1, 50, 0}, put{2, 30, 1}, put{3, 10, 2}) // empty lanes, the first one first
	fill(t, x, put{4, 50, 0})                                                 // the greatest that is not greater: equal,
	fill(t, x, put{4, 99, 0})                                                 // less,
	fill(t, x, put{4, 49, 1})                                                 // in the middle,
	fill(t, x, put{4, 30, 1})
	fill(t, x, put{4, 29, 2}) // and in the last lane
	fill(t, x, put{4, 10, 2})
	fill(t, x, put{4, 9, 2}) // else the least one
	fill(t, x, put{4, 0, 2})
	expectBags(t, fill(t, x, put{4, 60, 0}, put{5, 40, 1}, put{6, 0, 2}, put{7, 0, 2}, put{8, 39, 1}, put{9, 0, 0}), []int{1, 4, 9}, []int{2, 5, 8}, []int{3, 6, 7})
	y := fill(t, empty(t, 3, 5), put{1, 50, 0}, put{2, 30, 1}) // a lane that is good is better than an empty one
	fill(t, y, put{3, 50, 0})
	fill(t, y, put{3, 30, 1})
	fill(t, y, put{3, api.MaxTime, 0})
	fill(t, y, put{3, 29, 2}) // an empty one is better than others
	fill(t, y, put{3, 0, 2})
}

func TestPutIntoFullLanes(t *testing.T) { // P17.5: lanes without room do not count
	x := fill(t, empty(t, 3, 2), put{1, 50, 0}, put{2, 60, 0}, put{3, 30, 1}, put{4, 10, 2}, put{5, 10, 2})
	fill(t, x, put{6, 70, 1}) // the first lane would be better
	fill(t, x, put{6, 20, 1}) // the last lane would be good
	fill(t, x, put{6, 5, 1})  // the last lane would be the least one
	fill(t, x, put{6, 30, 1})
	full := fill(t, x, put{6, 31, 1})
	for bag := 7; bag <= api.MaxBags; bag++ {
		for _, due := range []int{0, 1, 9, 10, 30, 31, 60, 61, api.MaxTime} {
			refusePut(t, full, bag, due, api.ErrFull)
		}
	}
	y := fill(t, empty(t, 2, 1), put{1, 50, 0}, put{2, 60, 1}) // an empty lane, though the full one would be good
	refusePut(t, y, 3, 70, api.ErrFull)
	one := fill(t, empty(t, 1, 1), put{40, 0, 0})
	refusePut(t, one, 39, 0, api.ErrFull)
	fill(t, take(t, one, 40), put{39, 0, 0})
	fill(t, take(t, full, 4), put{7, 9, 2}) // and the room that a bag leaves
	fill(t, take(t, full, 4), put{7, 70, 2})
}

func TestPutAmongEqualLanes(t *testing.T) { // P17.5: the lowest one
	x := empty(t, 4, 3) // lanes that end with equal times are made of bags that are in the way
	x = fill(t, x, put{1, 40, 0}, put{2, 30, 1}, put{3, 20, 2}, put{4, 10, 3}, put{5, 5, 3}, put{6, 5, 3})
	expectBags(t, x, []int{1}, []int{2}, []int{3}, []int{4, 5, 6})
	x = fill(t, x, put{7, 5, 2}, put{8, 4, 2}, put{9, 5, 1}, put{10, 5, 1}, put{11, 5, 0})
	x = take(t, take(t, x, 8, 3, 7), 10, 2, 9)
	expectBags(t, x, []int{1, 11}, []int{2, 9}, []int{3, 7}, []int{4, 5, 6})
	fill(t, x, put{12, 5, 0}, put{13, 5, 1}, put{14, 5, 2}) // good lanes
	fill(t, x, put{12, 4, 0}, put{13, 4, 1}, put{14, 4, 2}) // lanes that are not
	fill(t, take(t, take(t, take(t, x, 2), 9), 1), put{12, 4, 1})
	fill(t, take(t, take(t, take(t, x, 3), 7), 1), put{12, 9, 0}, put{13, 8, 1}, put{14, 4, 2})
	z := take(t, take(t, fill(t, empty(t, 3, 1), put{1, 9, 0}, put{2, 8, 1}, put{3, 7, 2}), 3), 2)
	fill(t, z, put{4, 5, 1}) // empty lanes
	fill(t, z, put{4, 5, 1}, put{5, 6, 2})
}

func TestPutLimits(t *testing.T) { // P17.5: every bag, the ends of the times, every depth
	for bag := 1; bag <= api.MaxBags; bag++ {
		for _, due := range []int{0, 1, 1000, api.MaxTime - 1, api.MaxTime} {
			fill(t, empty(t, 2, 2), put{bag, due, 0}, put{bag%api.MaxBags + 1, due, 0})
		}
	}
	for depth := 1; depth <= api.MaxDepth; depth++ {
		x := empty(t, 2, depth)
		for i := range depth {
			x = fill(t, x, put{1 + i, 7, 0})
		}
		for i := range depth {
			x = fill(t, x, put{21 + i, 8, 1})
		}
		for bag := 1; bag <= api.MaxBags; bag++ {
			want := api.ErrFull
			if bag <= depth || bag > 20 && bag <= 20+depth {
				want = api.ErrDuplicate
			}
			refusePut(t, x, bag, 9, want)
		}
	}
	x := empty(t, api.MaxDepth, api.MaxDepth)
	for bag := 1; bag < api.MaxBags; bag++ {
		x = fill(t, x, put{bag, 100 - bag, min(bag, api.MaxDepth) - 1})
	}
	fill(t, x, put{40, 0, api.MaxDepth - 2}) // the last lane is full
}

func TestPutErrors(t *testing.T) { // P17.5
	some := fill(t, empty(t, 2, 2), put{3, 20, 0}, put{4, 10, 1}, put{40, 30, 0})
	full := fill(t, some, put{1, 10, 1})
	for _, x := range []api.Lanes{empty(t, 1, 1), some, full} {
		for _, bag := range noBags {
			for _, due := range append([]int{0, 20, api.MaxTime}, noTimes...) {
				refusePut(t, x, bag, due, api.ErrRange)
			}
		}
		for _, due := range noTimes { // also of bags in the store, and if it is full
			for bag := 1; bag <= api.MaxBags; bag++ {
				refusePut(t, x, bag, due, api.ErrRange)
			}
		}
	}
	for _, bag := range []int{3, 4, 40} {
		for _, due := range []int{0, 10, 20, 30, api.MaxTime} {
			refusePut(t, some, bag, due, api.ErrDuplicate)
			refusePut(t, full, bag, due, api.ErrDuplicate)
		}
	}
	refusePut(t, full, 1, 10, api.ErrDuplicate)
	fill(t, take(t, some, 4), put{4, 10, 1})
	fill(t, take(t, full, 40, 3), put{40, 10, 0})
}

func TestTake(t *testing.T) { // P17.6
	x := fill(t, empty(t, 1, 3), put{1, 10, 0}, put{2, 20, 0}, put{3, 30, 0})
	expectBags(t, take(t, x, 2, 1), []int{3, 1}) // the example
	expectBags(t, take(t, x, 1), []int{2, 3})
	expectBags(t, take(t, x, 3, 1, 2), []int{1, 2})
	expectBags(t, x, []int{1, 2, 3})
	x = fill(t, empty(t, 3, 5), put{1, 10, 0}, put{2, 9, 1}, put{3, 9, 1}, put{4, 8, 2}, put{5, 8, 2}, put{6, 8, 2}, put{7, 8, 2}, put{8, 8, 2})
	y := take(t, x, 6, 4, 5)
	expectBags(t, y, []int{1}, []int{2, 3}, []int{7, 8, 4, 5})
	expectBags(t, take(t, y, 1), nil, []int{2, 3}, []int{7, 8, 4, 5})
	expectBags(t, take(t, y, 3, 2), []int{1}, []int{2}, []int{7, 8, 4, 5})
	expectBags(t, take(t, y, 5, 7, 8, 4), []int{1}, []int{2, 3}, []int{7, 8, 4})
	expectBags(t, take(t, take(t, y, 7), 4, 8), []int{1}, []int{2, 3}, []int{5, 8})
	refuseTake(t, y, 6)
	if y.Depth != 5 || !slices.Equal(y.L[2], []api.Stored{{Bag: 7, Due: 8}, {Bag: 8, Due: 8}, {Bag: 4, Due: 8}, {Bag: 5, Due: 8}}) {
		t.Error(y)
	}
}

func TestTakeKeepsDueTimes(t *testing.T) { // P17.6: a lane whose last bag is another one then
	x := fill(t, empty(t, 2, 5), put{1, 30, 0}, put{2, 40, 0}, put{3, 50, 0}, put{4, 20, 1})
	x = take(t, x, 2, 1)
	if !slices.Equal(x.L[0], []api.Stored{{Bag: 3, Due: 50}, {Bag: 1, Due: 30}}) {
		t.Fatal(x)
	}
	fill(t, x, put{5, 30, 0})
	fill(t, x, put{5, 49, 0})
	fill(t, x, put{5, 29, 1})
}

func TestTakeErrors(t *testing.T) { // P17.6
	some := fill(t, empty(t, 3, 2), put{3, 20, 0}, put{4, 10, 1}, put{40, 30, 0})
	for _, x := range []api.Lanes{empty(t, 1, 1), empty(t, api.MaxDepth, api.MaxDepth), some} {
		for _, bag := range append([]int{1, 2, 5, 10, 20, 30, 39}, noBags...) { // due times are no bags
			refuseTake(t, x, bag)
		}
	}
}

func TestFullDepth(t *testing.T) { // P17.6: each place of the longest lane
	for i := range api.MaxDepth {
		x := empty(t, 2, api.MaxDepth)
		var before, want []int
		for bag := 1; bag <= api.MaxDepth; bag++ {
			x = fill(t, x, put{bag, bag, 0})
			switch {
			case bag <= i:
				before = append(before, bag)
			case bag > i+1:
				want = append(want, bag)
			}
		}
		expectBags(t, take(t, x, i+1, before...), append(want, before...), nil)
	}
}
