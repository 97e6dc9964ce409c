package lanes

import (
	"math"
	"slices"
	"testing"

	"baggage/api"
)

// spare returns a list whose spare capacity is not empty.
func spare[T any](l []T, extra T) []T {
	return append(slices.Clone(l), extra, extra, extra)[:len(l)]
}

// spoil overwrites all elements of a list, also those in its spare capacity.
func spoil[T any](l []T, x T) {
	for i := range l[:cap(l)] {
		l[:cap(l)][i] = x
	}
}

// sameLists reports whether two lists are equal, also in their spare capacity.
func sameLists[T comparable](a, b []T) bool {
	return len(a) == len(b) && slices.Equal(a[:cap(a)], b[:cap(b)])
}

// whole returns a store with spare capacity everywhere.
func whole(t *testing.T) api.Lanes {
	t.Helper()
	x := fill(t, empty(t, 4, 5), put{1, 40, 0}, put{2, 50, 0}, put{3, 30, 1}, put{4, 30, 1}, put{5, 10, 2}, put{6, 60, 0}, put{7, 35, 1}, put{8, 37, 1})
	for i := range x.L {
		x.L[i] = spare(x.L[i], api.Stored{Bag: 30 + i, Due: 20})
	}
	x.L = spare(x.L, []api.Stored{{Bag: 39, Due: 20}})
	return x
}

// sameStores reports whether two stores are equal, also in their spare capacity.
func sameStores(x, y api.Lanes) bool {
	return x.Depth == y.Depth && len(x.L) == len(y.L) && slices.EqualFunc(x.L[:cap(x.L)], y.L[:cap(y.L)], sameLists)
}

// spoilStore overwrites everything in a store.
func spoilStore(x api.Lanes) {
	for _, l := range x.L[:cap(x.L)] {
		spoil(l, api.Stored{Bag: 77, Due: 77})
	}
	spoil(x.L, nil)
}

// result is what Put and Take return, with the lane or the bags.
type result struct {
	x    api.Lanes
	bags []int
	e    api.Errno
}

// calls are ways to get a store from another one, with and without errors.
func calls() []func(api.Lanes) result {
	var all []func(api.Lanes) result
	for bag := range 12 {
		for _, due := range []int{-1, 0, 9, 10, 30, 36, 37, 50, 70} {
			all = append(all, func(x api.Lanes) result {
				y, lane, e := Put(x, api.Stored{Bag: bag, Due: due})
				return result{y, []int{lane}, e}
			})
		}
		all = append(all, func(x api.Lanes) result {
			y, before, e := Take(x, bag)
			return result{y, before, e}
		})
	}
	return all
}

func (r result) equals(o result) bool {
	return same(r.x, o.x) && slices.Equal(r.bags, o.bags) && r.e == o.e
}

// kept returns a copy of a result.
func (r result) kept() result {
	return result{copied(r.x), slices.Clone(r.bags), r.e}
}

func TestStoresAreKept(t *testing.T) { // rule 2
	x := whole(t)
	for i, call := range calls() {
		y := call(x)
		if !sameStores(x, whole(t)) {
			t.Fatal(i, x)
		}
		spoilStore(y.x) // and what is done to the result does not matter
		spoil(y.bags, 77)
		if !sameStores(x, whole(t)) {
			t.Fatal("memory of the argument:", i, x)
		}
	}
}

func TestNothingIsRetained(t *testing.T) { // rule 2: what is done to an argument or a result later does not matter
	for i, call := range calls() {
		x := whole(t)
		first, second := call(x), call(x)
		want := first.kept()
		spoilStore(x)
		if !first.equals(want) || !second.equals(want) {
			t.Fatal("memory of the argument:", i, first, second)
		}
		spoilStore(first.x)
		spoil(first.bags, 77)
		if !second.equals(want) {
			t.Fatal("memory of another result:", i, second)
		}
	}
}

func TestResultsShareNothing(t *testing.T) { // rule 2: the lists of one result
	for i, call := range calls() {
		want := call(whole(t))
		for lane := range want.x.L {
			y := call(whole(t))
			spoil(y.x.L[lane], api.Stored{Bag: 77, Due: 77})
			y.x.L[lane] = want.x.L[lane]
			if !y.equals(want) {
				t.Fatal(i, lane, y)
			}
		}
		y := call(whole(t))
		spoil(y.bags, 77)
		if !same(y.x, want.x) {
			t.Fatal(i, y)
		}
	}
	x, y := empty(t, 3, 3), empty(t, 3, 3)
	for lane := range x.L {
		x.L[lane] = append(x.L[lane], api.Stored{Bag: lane + 1, Due: 5})
	}
	expectBags(t, x, []int{1}, []int{2}, []int{3})
	expectBags(t, y, nil, nil, nil)
	expectBags(t, empty(t, 3, 3), nil, nil, nil)
}

func TestListsAreKept(t *testing.T) { // rule 2
	due, lanes := spare([]int{5, 3, 4, 1}, 9), spare([]int{0, 1, 1, 2}, 8)
	wantDue, wantLanes := spare([]int{5, 3, 4, 1}, 9), spare([]int{0, 1, 1, 2}, 8)
	first, _ := Assign(due)
	second, _ := Assign(due)
	chain, other := Chain(due), Chain(due)
	expectCheck(t, due, lanes, api.OK)
	expectCheck(t, due, spare([]int{0, 1, 1, 1}, 8), api.ErrOrder)
	Count(due)
	if !sameLists(due, wantDue) || !sameLists(lanes, wantLanes) {
		t.Fatal(due, lanes)
	}
	spoil(first, 77)
	spoil(chain, 77)
	if !sameLists(due, wantDue) {
		t.Fatal("memory of the argument:", due)
	}
	spoil(due, 77)
	if !slices.Equal(second, []int{0, 1, 1, 2}) || !slices.Equal(other, []int{0, 2, 3}) {
		t.Fatal(second, other)
	}
}

func TestEmptyLists(t *testing.T) { // rule 2: nil and empty lists
	for _, none := range [][]int{nil, {}, make([]int, 0, 5), spare(nil, -1)} {
		expect(t, none, nil, nil)
		for _, other := range [][]int{nil, {}, spare(nil, -1)} {
			expectCheck(t, none, other, api.OK)
		}
	}
	s := api.Stored{Bag: 2, Due: 90}
	for _, none := range [][]api.Stored{nil, {}, make([]api.Stored, 0, 5), spare(nil, s)} {
		x := api.Lanes{Depth: 2, L: [][]api.Stored{{{Bag: 1, Due: 9}}, none}}
		before := slices.Clone(none[:cap(none)])
		refuseTake(t, x, 2)
		y := fill(t, x, put{2, 8, 1}, put{3, 8, 1})
		expectBags(t, take(t, y, 3, 2), []int{1}, []int{2})
		expectBags(t, take(t, x, 1), nil, nil)
		spoilStore(y)
		if !slices.Equal(none[:cap(none)], before) {
			t.Error(none[:cap(none)])
		}
	}
}

func TestZeroStore(t *testing.T) { // rule 1: the result of an error as an argument
	for _, x := range []api.Lanes{{}, {Depth: 5}, {Depth: 5, L: [][]api.Stored{}}} {
		refuseTake(t, x, 1)
		refusePut(t, x, 1, 5, api.ErrFull)
		refusePut(t, x, 0, 5, api.ErrRange)
	}
}

// odd returns a number that is at the end of a range, or beyond it.
func (r *random) odd() int {
	l := []int{math.MinInt, math.MinInt + 1, -2, -1, 0, 0, 1, 1, 2, 2, 3, 3, 19, 20, 21, 39, 40, 41, 256, api.MaxTime, api.MaxTime + 1, 1 << 40, math.MaxInt - 1, math.MaxInt}
	return l[r.below(len(l))]
}

// odds returns up to n such numbers.
func (r *random) odds(n int) []int {
	l := make([]int, r.below(n+1))
	for i := range l {
		l[i] = r.odd()
	}
	return l
}

// store returns a store of any form.
func (r *random) store() api.Lanes {
	x := api.Lanes{Depth: r.odd()}
	for range r.below(5) {
		var l []api.Stored
		for range r.below(5) {
			l = append(l, api.Stored{Bag: r.odd(), Due: r.odd()})
		}
		x.L = append(x.L, l)
	}
	return x
}

func TestAnyStores(t *testing.T) { // rule 1, rule 5: stores that this package does not make
	r := random(6)
	for range 30000 {
		x, s := r.store(), api.Stored{Bag: r.odd(), Due: r.odd()}
		before := copied(x)
		for _, call := range []func() result{
			func() result { y, lane, e := Put(x, s); return result{y, []int{lane}, e} },
			func() result { y, bags, e := Take(x, s.Bag); return result{y, bags, e} },
		} {
			first, second := call(), call()
			if !first.equals(second) || !same(x, before) {
				t.Fatal(x, before, s, first, second)
			}
			if first.e != api.OK && !same(first.x, api.Lanes{}) {
				t.Fatal(x, s, first)
			}
		}
		_, _, e := Put(x, s)
		if bad := s.Bag < 1 || s.Bag > 40 || s.Due < 0 || s.Due > 1<<20; bad != (e == api.ErrRange) {
			t.Fatal(x, s, e)
		}
	}
}

func TestAnyLists(t *testing.T) { // rule 1, rule 5, rule 6
	r := random(7)
	for range 30000 {
		due, lanes := r.odds(6), r.odds(6)
		want := api.OK
		for _, d := range due {
			if d < 0 || d > 1<<20 {
				want = api.ErrRange
			}
		}
		if want != api.OK {
			refuse(t, due, want)
			expectCheck(t, due, lanes, want)
			continue
		}
		expect(t, due, assigned(due), chained(assigned(due)))
		switch {
		case len(lanes) != len(due) || slices.ContainsFunc(lanes, func(n int) bool { return n < 0 }):
			want = api.ErrRange
		case !good(due, lanes):
			want = api.ErrOrder
		}
		expectCheck(t, due, lanes, want)
	}
}

func TestLargeArguments(t *testing.T) { // rule 1
	long := ascending(1000000)
	refuse(t, long, api.ErrLimit)
	expectCheck(t, []int{1, 2}, long, api.ErrRange)
	expectCheck(t, nil, long, api.ErrRange)
	x := api.Lanes{Depth: math.MaxInt, L: make([][]api.Stored, 1000)}
	for lane := range x.L {
		for i := range 1000 {
			x.L[lane] = append(x.L[lane], api.Stored{Bag: 41 + i + 1000*lane, Due: 1000 - lane})
		}
	}
	y, lane, e := Put(x, api.Stored{Bag: 1, Due: 600})
	if e != api.OK || lane != 400 || len(y.L[400]) != 1001 {
		t.Error(lane, e)
	}
	y, before, e := Take(y, 1)
	if e != api.OK || len(before) != 1000 || !same(y, x) {
		t.Error(len(before), e)
	}
}
