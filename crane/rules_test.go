package crane

import (
	"math"
	"slices"
	"testing"

	"baggage/api"
)

// spare returns a list whose spare capacity is not empty.
func spare[T any](l []T, extra T) []T {
	return append(slices.Clone(l), extra, extra, extra)[:len(l)]
}

// spoil overwrites all elements of a list, also those in its spare capacity.
func spoil[T any](l []T, x T) {
	for i := range l[:cap(l)] {
		l[:cap(l)][i] = x
	}
}

// sameLists reports whether two lists are equal, also in their spare capacity.
func sameLists[T comparable](a, b []T) bool {
	return len(a) == len(b) && slices.Equal(a[:cap(a)], b[:cap(b)])
}

// calls are ways to get a list from jobs and an order of them, with and without errors.
var calls = []func(now int, jobs []api.Job, order []int) []int{
	func(now int, jobs []api.Job, order []int) []int { l, _ := Plan(now, jobs); return l },
	func(now int, jobs []api.Job, order []int) []int { return Overload(now, jobs) },
	Finish,
	func(now int, jobs []api.Job, order []int) []int { return []int{int(Check(now, jobs, order))} },
}

func TestArgumentsAreKept(t *testing.T) { // rule 2
	jobs := func() []api.Job {
		return spare(made(at{2, 30}, at{1, 9}, at{0, 30}, at{0, 11}), api.Job{Position: 4, Due: 5})
	}
	order := func() []int { return spare([]int{1, 3, 0, 2}, 4) }
	for i, call := range calls {
		for _, now := range []int{-1, 0, 5, 6, 20} {
			j, o := jobs(), order()
			first, second := call(now, j, o), call(now, j, o)
			want := slices.Clone(first)
			spoil(first, 77) // what is done to one result matters to nothing else
			if !sameLists(j, jobs()) || !sameLists(o, order()) {
				t.Fatal(i, now, j, o)
			}
			if !slices.Equal(second, want) {
				t.Fatal("memory of another result:", i, now, second)
			}
			spoil(j, api.Job{Position: 77, Due: 77})
			spoil(o, 77)
			if !slices.Equal(second, want) {
				t.Fatal("memory of an argument:", i, now, second)
			}
			if again := call(now, jobs(), order()); !slices.Equal(again, want) {
				t.Fatal("memory of the package:", i, now, again)
			}
		}
	}
}

func TestEmptyLists(t *testing.T) { // rule 2: nil and empty lists
	for _, jobs := range [][]api.Job{nil, {}, make([]api.Job, 0, 5), spare(nil, api.Job{Position: -1})} {
		for _, order := range [][]int{nil, {}, spare(nil, -1)} {
			expect(t, 3, jobs, order, nil)
		}
	}
}

// odd returns a number that is at the end of a range, or beyond it.
func (r *random) odd() int {
	l := []int{math.MinInt, math.MinInt + 1, -2, -1, 0, 0, 1, 1, 2, 2, 3, 98, 99, 100, 256, api.MaxTime - 1, api.MaxTime, api.MaxTime + 1, 1 << 40, math.MaxInt - 1, math.MaxInt}
	return l[r.below(len(l))]
}

func TestAnyArguments(t *testing.T) { // rule 1, rule 5, rule 6
	r, valid := random(4), 0
	for range 100000 {
		now, jobs, order := r.odd(), make([]api.Job, r.below(4)), make([]int, r.below(4))
		good := now >= 0 && now <= 1<<20
		for i := range jobs {
			jobs[i] = api.Job{Position: r.odd(), Due: r.odd()}
			good = good && jobs[i].Position >= 0 && jobs[i].Position <= 99 && jobs[i].Due >= 0 && jobs[i].Due <= 1<<20
		}
		for i := range order {
			order[i] = r.odd()
		}
		if good {
			compare(t, now, jobs)
			valid++
		} else {
			refuse(t, now, jobs, api.ErrRange)
		}
		for _, call := range calls {
			if first, second := call(now, jobs, order), call(now, jobs, order); !slices.Equal(first, second) {
				t.Fatal(now, jobs, order, first, second)
			}
		}
		if Cost(now) != -1 && (now < 0 || now > 99) {
			t.Fatal(now)
		}
	}
	if valid < 5000 {
		t.Error("seldom:", valid)
	}
}

func TestLargeArguments(t *testing.T) { // rule 1
	long := ascending(1000000)
	refuse(t, 0, repeat(len(long), 0, api.MaxTime), api.ErrLimit)
	expectCheck(t, 0, repeat(2, 0, 9), long, api.ErrOrder)
	expectCheck(t, 0, nil, long, api.ErrOrder)
	expectTimes(t, 0, repeat(2, 0, 9), long, nil)
}
