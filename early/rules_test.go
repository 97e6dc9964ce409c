package early

import (
	"math"
	"slices"
	"testing"

	"baggage/api"
)

// spare returns a list whose spare capacity is not empty.
func spare[T any](l []T, extra T) []T {
	return append(slices.Clone(l), extra, extra, extra)[:len(l)]
}

// spoil overwrites all elements of a list, also those in its spare capacity.
func spoil[T any](l []T, x T) {
	for i := range l[:cap(l)] {
		l[:cap(l)][i] = x
	}
}

// sameLists reports whether two lists are equal, also in their spare capacity.
func sameLists[T comparable](a, b []T) bool {
	return len(a) == len(b) && slices.Equal(a[:cap(a)], b[:cap(b)])
}

func TestArgumentsAreKept(t *testing.T) { // rule 2
	stored := func() []api.Stored {
		return spare(made(at{3, 20}, at{0, 1}, at{2, 20}, at{9, 7}, at{1, 25}, at{2, 20}, at{41, 2}), api.Stored{Bag: 5, Due: 1})
	}
	want := []int{9, 2, 2, 3, 1}
	l := stored()
	first, second := Rank(l), Rank(l)
	expectNext(t, l, 7, 9)
	expectNext(t, l, 6, 0)
	if !sameLists(l, stored()) {
		t.Fatal(l)
	}
	spoil(first, 77) // what is done to one result matters to nothing else
	if !sameLists(l, stored()) || !slices.Equal(second, want) {
		t.Fatal("memory of another result:", l, second)
	}
	spoil(l, api.Stored{Bag: 7, Due: 7})
	if !slices.Equal(second, want) {
		t.Fatal("memory of an argument:", second)
	}
	expectRank(t, stored(), want...)
	expectNext(t, stored(), 7, 9)
}

func TestEmptyLists(t *testing.T) { // rule 2: nil and empty lists
	for _, l := range [][]api.Stored{nil, {}, make([]api.Stored, 0, 5), spare(nil, api.Stored{Bag: 5, Due: 1})} {
		expectRank(t, l)
		expectNext(t, l, math.MaxInt, 0)
	}
}

// odd returns a number that is at the end of a range, or beyond it.
func (r *random) odd() int {
	l := []int{math.MinInt, math.MinInt + 1, -1 << 40, -2, -1, 0, 0, 1, 1, 2, 3, 39, 40, 40, 41, 256, api.MaxTime / 2, api.MaxTime - 1, api.MaxTime, api.MaxTime, api.MaxTime + 1, 1 << 40, math.MaxInt - 1, math.MaxInt}
	return l[r.below(len(l))]
}

func TestAnyArguments(t *testing.T) { // rule 1, rule 5, rule 6
	r, held, due := random(5), 0, map[bool]int{}
	for range 100000 {
		now, open, distance, margin := r.odd(), r.odd(), r.odd(), r.odd()
		want := early(now, open, distance, margin)
		expectHold(t, now, open, distance, margin, want)
		if want {
			held++
		}
		l := make([]api.Stored, r.below(5))
		for i := range l {
			l[i] = api.Stored{Bag: r.odd(), Due: r.odd()}
		}
		bag, rank := 0, ranked(l)
		if len(rank) > 0 && rank[0].Due <= now {
			bag = rank[0].Bag
		}
		expectNext(t, l, now, bag)
		compare(t, l)
		due[bag > 0]++
	}
	if min(held, due[true], due[false]) < 1000 {
		t.Error("one-sided:", held, due)
	}
}

func TestLargeArguments(t *testing.T) { // rule 1
	const n = 300000
	l, want := make([]api.Stored, n), make([]int, n)
	for i := range l {
		l[i] = api.Stored{Bag: 1 + i%api.MaxBags, Due: n - i}
		want[n-1-i] = l[i].Bag
	}
	expectRank(t, l, want...)
	expectFirst(t, l, want[0], 1)
	for i := range l {
		l[i].Bag = -i
	}
	expectRank(t, l)
	expectNext(t, l, n, 0)
}
