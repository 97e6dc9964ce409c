package early

import (
	"math"
	"math/big"
	"slices"
	"testing"

	"baggage/api"
)

// random is a sequence of numbers that looks random.
type random uint32

// below returns a number from 0 to n-1.
func (r *random) below(n int) int {
	*r = *r*1664525 + 1013904223
	return int(*r>>8) % n
}

// stored returns n bags with numbers from -1 to bags+1 (and some without a bag), which are due at times from 0 to latest.
func (r *random) stored(n, bags, latest int) []api.Stored {
	l := make([]api.Stored, n)
	for i := range l {
		l[i] = api.Stored{Bag: r.below(bags+3) - 1, Due: r.below(latest + 1)}
	}
	return l
}

// early is a second reading of P19.1, with numbers of any size.
func early(now, open, distance, margin int) bool {
	most, sum := big.NewInt(1<<20), new(big.Int)
	for _, x := range []int{now, open, distance, margin} {
		if b := big.NewInt(int64(x)); b.Sign() < 0 || b.Cmp(most) > 0 {
			return false
		}
	}
	for _, x := range []int{now, distance, margin} {
		sum.Add(sum, big.NewInt(int64(x)))
	}
	return sum.Cmp(big.NewInt(int64(open))) < 0
}

// ranked is a second reading of P19.2: each bag goes behind all those before which it does not come.
func ranked(l []api.Stored) []api.Stored {
	var rank []api.Stored
	for _, s := range l {
		if s.Bag < 1 || s.Bag > 40 {
			continue
		}
		place := 0
		for place < len(rank) && (rank[place].Due < s.Due || rank[place].Due == s.Due && rank[place].Bag < s.Bag) {
			place++
		}
		rank = slices.Insert(rank, place, s)
	}
	return rank
}

// compare holds Rank and Next against the second reading, and returns the rank.
func compare(t *testing.T, l []api.Stored) []int {
	t.Helper()
	rank := ranked(l)
	bags := make([]int, len(rank))
	for i, s := range rank {
		bags[i] = s.Bag
	}
	expectRank(t, l, bags...)
	if len(rank) > 0 {
		expectFirst(t, l, rank[0].Bag, rank[0].Due)
	} else {
		expectNext(t, l, math.MaxInt, 0)
	}
	return bags
}

func TestAllSmallNumbers(t *testing.T) { // P19.1
	both := map[bool]int{}
	for now := -1; now < 8; now++ {
		for open := -1; open < 12; open++ {
			for distance := -1; distance < 8; distance++ {
				for margin := -1; margin < 8; margin++ {
					want := min(now, open, distance, margin) >= 0 && open-margin-distance-now >= 1
					expectHold(t, now, open, distance, margin, want)
					both[want]++
				}
			}
		}
	}
	if min(both[true], both[false]) < 500 {
		t.Error("one-sided:", both)
	}
}

func TestHoldAtTheEnd(t *testing.T) { // P19.1: sums near the time at which the make-up opens
	r, both := random(1), map[bool]int{}
	for range 100000 {
		open := r.below(api.MaxTime + 1)
		now := r.below(open + 1)
		distance := r.below(open - now + 1)
		margin := max(0, open-now-distance-2+r.below(5))
		want := early(now, open, distance, margin)
		expectHold(t, now, open, distance, margin, want)
		both[want]++
		if want { // it is also stored earlier, for a later flight, on a shorter way, and with a smaller margin
			expectHold(t, r.below(now+1), open, distance, margin, true)
			expectHold(t, now, open+r.below(api.MaxTime-open+1), distance, margin, true)
			expectHold(t, now, open, r.below(distance+1), margin, true)
			expectHold(t, now, open, distance, r.below(margin+1), true)
		}
	}
	if min(both[true], both[false]) < 10000 {
		t.Error("one-sided:", both)
	}
}

func TestAllShortLists(t *testing.T) { // P19.2
	var some []api.Stored
	for _, bag := range []int{0, 1, 2, api.MaxBags, api.MaxBags + 1} {
		for due := range 3 {
			some = append(some, api.Stored{Bag: bag, Due: due})
		}
	}
	var lists func(l []api.Stored)
	lists = func(l []api.Stored) {
		compare(t, l)
		for _, s := range some {
			if len(l) < 4 {
				lists(append(slices.Clone(l), s))
			}
		}
	}
	lists(nil)
}

func TestManyLists(t *testing.T) { // P19.2
	r, lengths, repeats := random(2), map[int]int{}, 0
	for range 8000 {
		l := r.stored(r.below(60), 1+r.below(api.MaxBags), r.below(30))
		for range r.below(3) { // the same bag again, at the same time or at another one
			if len(l) > 0 {
				s := l[r.below(len(l))]
				s.Due += r.below(2)
				l = slices.Insert(l, r.below(len(l)), s)
			}
		}
		rank := compare(t, l)
		lengths[len(rank)/10]++
		slices.Sort(rank)
		if len(slices.Compact(rank)) < lengthOf(l) {
			repeats++
		}
	}
	for tens := range 5 {
		if lengths[tens] < 200 {
			t.Error("seldom:", tens, lengths)
		}
	}
	if repeats < 1000 {
		t.Error("seldom:", repeats)
	}
}

// lengthOf returns how many elements of a list count.
func lengthOf(l []api.Stored) int {
	n := 0
	for _, s := range l {
		if s.Bag > 0 && s.Bag < api.MaxBags+1 {
			n++
		}
	}
	return n
}

func TestOrderDoesNotMatter(t *testing.T) { // P19.2: the rank of a list is the same in whatever order its elements are
	r := random(3)
	for range 2000 {
		l := r.stored(r.below(30), api.MaxBags, r.below(40))
		rank := compare(t, l)
		for range 3 {
			for i := range l {
				j := r.below(i + 1)
				l[i], l[j] = l[j], l[i]
			}
			expectRank(t, l, rank...)
		}
	}
}

func TestRelease(t *testing.T) { // the consequence: in the order of the due times, and never before them
	r, waits, late := random(4), 0, 0
	for range 1000 {
		l := r.stored(r.below(25), api.MaxBags, 40)
		rank := Rank(l)
		last, released := math.MinInt, []int(nil)
		for now := -2; now <= 40 || len(released) < len(rank) && now < 100; now++ {
			bag := Next(l, now)
			if bag == 0 {
				if slices.ContainsFunc(l, func(s api.Stored) bool { return s.Bag >= 1 && s.Bag <= api.MaxBags && s.Due <= now }) {
					t.Fatal("none at", now, l)
				}
				waits++
				continue
			}
			place := first(l, bag)
			due := l[place].Due
			if due > now || due < last {
				t.Fatal(bag, now, last, l)
			}
			if due < now {
				late++
			}
			last, released = due, append(released, bag)
			l = slices.Delete(l, place, place+1)
		}
		if !slices.Equal(released, rank) {
			t.Fatal(released, rank)
		}
	}
	if min(waits, late) < 1000 {
		t.Error("one-sided:", waits, late)
	}
}

// first returns the place of the element of a bag that is due first.
func first(l []api.Stored, bag int) int {
	place := -1
	for i, s := range l {
		if s.Bag == bag && (place < 0 || s.Due < l[place].Due) {
			place = i
		}
	}
	return place
}
