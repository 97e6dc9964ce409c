package crane

import (
	"math"
	"slices"
	"testing"

	"baggage/api"
)

// Numbers that are no times and no positions. Some of them are allowed numbers in fewer bits.
var (
	noTimes     = []int{math.MinInt, -api.MaxTime, -2, -1, api.MaxTime + 1, api.MaxTime + 2, 1<<32 + 300, math.MaxInt}
	noPositions = []int{math.MinInt, -api.MaxPosition, -2, -1, api.MaxPosition + 1, api.MaxPosition + 2, 256 + 3, 1<<32 + 3, 1 << 62, math.MaxInt - 1, math.MaxInt}
)

// at is a job: its position, and when it is due.
type at struct{ position, due int }

func made(l ...at) []api.Job {
	jobs := make([]api.Job, len(l))
	for i, j := range l {
		jobs[i] = api.Job{Position: j.position, Due: j.due}
	}
	return jobs
}

// ascending returns the numbers from 0 to n-1.
func ascending(n int) []int {
	l := make([]int, n)
	for i := range l {
		l[i] = i
	}
	return l
}

// turned returns a list from its end to its beginning.
func turned(l []int) []int {
	l = slices.Clone(l)
	slices.Reverse(l)
	return l
}

// repeat returns a list of n equal jobs.
func repeat(n, position, due int) []api.Job {
	return slices.Repeat([]api.Job{{Position: position, Due: due}}, n)
}

// expect checks what all functions say of jobs for which there is an order without late jobs.
func expect(t *testing.T, now int, jobs []api.Job, order, times []int) {
	t.Helper()
	if got, e := Plan(now, jobs); e != api.OK || !slices.Equal(got, order) {
		t.Fatalf("Plan of %v at %d: %v, %d, not %v", jobs, now, got, e, order)
	}
	if got := Overload(now, jobs); len(got) > 0 {
		t.Fatalf("Overload of %v at %d: %v", jobs, now, got)
	}
	expectTimes(t, now, jobs, order, times)
	expectCheck(t, now, jobs, order, api.OK)
}

// expectLate checks what all functions say of jobs for which there is no such order.
func expectLate(t *testing.T, now int, jobs []api.Job, overload ...int) {
	t.Helper()
	if got, e := Plan(now, jobs); e != api.ErrLate || len(got) > 0 {
		t.Fatalf("Plan of %v at %d: %v, %d, not late", jobs, now, got, e)
	}
	if got := Overload(now, jobs); !slices.Equal(got, overload) {
		t.Fatalf("Overload of %v at %d: %v, not %v", jobs, now, got, overload)
	}
	for _, order := range [][]int{ascending(len(jobs)), turned(ascending(len(jobs)))} {
		expectCheck(t, now, jobs, order, api.ErrLate)
	}
}

func expectTimes(t *testing.T, now int, jobs []api.Job, order, times []int) {
	t.Helper()
	if got := Finish(now, jobs, order); !slices.Equal(got, times) {
		t.Fatalf("Finish of %v at %d in the order %v: %v, not %v", jobs, now, order, got, times)
	}
}

func expectCheck(t *testing.T, now int, jobs []api.Job, order []int, want api.Errno) {
	t.Helper()
	if e := Check(now, jobs, order); e != want {
		t.Fatalf("Check of %v at %d in the order %v: %d, not %d", jobs, now, order, e, want)
	}
}

// refuse checks what all functions say of a time and jobs one of which is not valid.
func refuse(t *testing.T, now int, jobs []api.Job, want api.Errno) {
	t.Helper()
	if order, e := Plan(now, jobs); e != want || len(order) > 0 {
		t.Errorf("Plan: %v, %d, not the error %d", order, e, want)
	}
	if l := Overload(now, jobs); len(l) > 0 {
		t.Errorf("not valid, but the overload %v", l)
	}
	n := len(jobs)
	for _, order := range [][]int{ascending(n), turned(ascending(n)), nil, {5}, {-1}, ascending(n + 1)} { // some are wrong as well
		expectTimes(t, now, jobs, order, nil)
		expectCheck(t, now, jobs, order, want)
	}
}

func TestCost(t *testing.T) { // P18.1
	want := 2
	for p := 0; p <= api.MaxPosition; p++ {
		if got := Cost(p); got != want {
			t.Errorf("%d: %d, not %d", p, got, want)
		}
		want += 2
	}
	for _, p := range noPositions {
		if got := Cost(p); got != -1 {
			t.Errorf("%d: %d, not -1", p, got)
		}
	}
}

func TestPlans(t *testing.T) { // P18.1, P18.2
	for _, c := range []struct {
		now          int
		jobs         []at
		order, times []int
	}{
		{0, nil, nil, nil},
		{api.MaxTime, nil, nil, nil},
		{0, []at{{0, 2}, {1, 6}}, []int{0, 1}, []int{2, 6}}, // the first example
		{0, []at{{0, 2}}, []int{0}, []int{2}},
		{7, []at{{0, 9}}, []int{0}, []int{9}},
		{0, []at{{api.MaxPosition, 2*api.MaxPosition + 2}}, []int{0}, []int{200}},
		{0, []at{{0, api.MaxTime}}, []int{0}, []int{2}},
		{api.MaxTime - 2, []at{{0, api.MaxTime}}, []int{0}, []int{api.MaxTime}},
		{api.MaxTime - 6, []at{{1, api.MaxTime}, {0, api.MaxTime}}, []int{0, 1}, []int{api.MaxTime - 2, api.MaxTime}},
		{0, []at{{1, 6}, {0, 2}}, []int{1, 0}, []int{2, 6}},                                                   // not in the order of the indices
		{0, []at{{9, 90}, {0, 90}, {5, 90}}, []int{0, 1, 2}, []int{20, 22, 34}},                               // equal times, whatever the costs are
		{0, []at{{0, 90}, {9, 89}, {0, 90}, {9, 89}}, []int{1, 3, 0, 2}, []int{20, 40, 42, 44}},               // again
		{5, []at{{2, 30}, {1, 9}, {0, 30}, {0, 11}}, []int{1, 3, 0, 2}, []int{9, 11, 17, 19}},                 // with no time to spare at the first two
		{5, []at{{2, 19}, {1, 9}, {0, 19}, {0, 11}}, []int{1, 3, 0, 2}, []int{9, 11, 17, 19}},                 // also at the last one
		{3, []at{{4, 70}, {3, 60}, {2, 50}, {1, 40}, {0, 30}}, []int{4, 3, 2, 1, 0}, []int{5, 9, 15, 23, 33}}, // from the end
	} {
		expect(t, c.now, made(c.jobs...), c.order, c.times)
	}
}

func TestOverloads(t *testing.T) { // P18.2, P18.3
	for _, c := range []struct {
		now      int
		jobs     []at
		overload []int
	}{
		{0, []at{{0, 2}, {1, 5}}, []int{0, 1}}, // the second example
		{0, []at{{0, 1}}, []int{0}},
		{0, []at{{0, 0}}, []int{0}},
		{8, []at{{0, 9}}, []int{0}},
		{9, []at{{0, 9}}, []int{0}},
		{api.MaxTime, []at{{0, 0}}, []int{0}},
		{api.MaxTime, []at{{0, api.MaxTime}}, []int{0}},
		{api.MaxTime - 1, []at{{0, api.MaxTime}}, []int{0}},
		{0, []at{{api.MaxPosition, 2*api.MaxPosition + 1}}, []int{0}},
		{0, []at{{0, 1}, {1, 5}}, []int{0}},                           // the first of several ones that are late
		{0, []at{{1, 5}, {0, 2}}, []int{1, 0}},                        // in the order by due times
		{0, []at{{0, 2}, {0, 2}}, []int{0, 1}},                        // equal times
		{0, []at{{1, 5}, {0, 5}}, []int{0, 1}},                        // the same, with other costs
		{0, []at{{0, 5}, {1, 5}}, []int{0, 1}},                        // by the index, not by the costs
		{6, []at{{2, 30}, {1, 9}, {0, 30}, {0, 11}}, []int{1}},        // only the first one
		{6, []at{{2, 17}, {1, 10}, {0, 30}, {0, 12}}, []int{1, 3, 0}}, // not the last one
		{6, []at{{2, 18}, {1, 10}, {0, 19}, {0, 12}}, []int{1, 3, 0, 2}},
		{0, []at{{9, 90}, {0, 90}, {5, 20}, {6, 25}, {0, 91}}, []int{2, 3}}, // without those that are due later
		{0, []at{{0, 50}, {20, 41}, {0, 50}, {0, 50}}, []int{1}},            // one that cannot be in time by itself
	} {
		expectLate(t, c.now, made(c.jobs...), c.overload...)
	}
}

func TestManyJobs(t *testing.T) { // P18.1, P18.2, P18.3: up to the limit
	for _, n := range []int{1, 2, 3, 100, api.MaxStored - 1, api.MaxStored} {
		jobs, times := repeat(n, 0, 0), make([]int, n)
		for i := range jobs {
			jobs[i] = api.Job{Position: i % (api.MaxPosition + 1), Due: api.MaxTime}
			times[i] = i + 1 + sumOfPositions(i+1)*2 + i + 1
		}
		expect(t, 0, jobs, ascending(n), times)
		now := api.MaxTime - times[n-1]
		for i := range times {
			times[i] += now
		}
		expect(t, now, jobs, ascending(n), times)
		expectLate(t, now+1, jobs, ascending(n)...)
		expectLate(t, api.MaxTime, jobs, 0)
		expectLate(t, 0, repeat(n, 0, 0), 0)
		expectLate(t, 0, repeat(n, 0, 2*n-1), ascending(n)...)
		for i := range times {
			times[i] = 2 * (i + 1)
		}
		expect(t, 0, repeat(n, 0, 2*n), ascending(n), times)
		for i := range jobs {
			jobs[i] = api.Job{Due: 2 * (n - i)}
		}
		expect(t, 0, jobs, turned(ascending(n)), times)
		expectLate(t, 1, jobs, n-1)
	}
}

// sumOfPositions returns the sum of the positions of the first n jobs if they are 0, 1, 2 and so on, from 0 again after the greatest one.
func sumOfPositions(n int) int {
	sum := 0
	for i := range n {
		sum += i % (api.MaxPosition + 1)
	}
	return sum
}

func TestErrors(t *testing.T) { // P18.1, P18.2, P18.3
	for n := api.MaxStored + 1; n < api.MaxStored+400; n += 57 {
		refuse(t, 0, repeat(n, 0, api.MaxTime), api.ErrLimit)
		refuse(t, 0, repeat(n, 0, 0), api.ErrLimit) // several errors
		refuse(t, 0, repeat(n, -1, 0), api.ErrLimit)
		refuse(t, 0, repeat(n, 0, -1), api.ErrLimit)
		refuse(t, -1, repeat(n, 0, api.MaxTime), api.ErrLimit)
		refuse(t, api.MaxTime+1, repeat(n, -1, -1), api.ErrLimit)
	}
	for _, x := range noTimes {
		refuse(t, x, nil, api.ErrRange)
		refuse(t, x, repeat(2, 0, api.MaxTime), api.ErrRange)
		refuse(t, x, repeat(2, 0, 0), api.ErrRange) // late as well
		refuse(t, x, repeat(api.MaxStored, -1, -1), api.ErrRange)
	}
	for _, n := range []int{1, 2, 3, api.MaxStored} { // in each place, late or not
		for i := range n {
			for _, due := range []int{0, api.MaxTime} {
				jobs := repeat(n, 0, due)
				for _, x := range noTimes {
					jobs[i] = api.Job{Due: x}
					refuse(t, 0, jobs, api.ErrRange)
				}
				for _, x := range noPositions {
					jobs[i] = api.Job{Position: x, Due: due}
					refuse(t, 0, jobs, api.ErrRange)
				}
			}
		}
	}
}

func TestFinish(t *testing.T) { // P18.1
	jobs := made(at{2, 30}, at{1, 9}, at{0, 30})
	for _, c := range []struct{ order, times []int }{
		{[]int{0, 1, 2}, []int{11, 15, 17}}, // late jobs have a time as well
		{[]int{0, 2, 1}, []int{11, 13, 17}},
		{[]int{1, 0, 2}, []int{9, 15, 17}},
		{[]int{1, 2, 0}, []int{9, 11, 17}},
		{[]int{2, 0, 1}, []int{7, 13, 17}},
		{[]int{2, 1, 0}, []int{7, 11, 17}},
	} {
		expectTimes(t, 5, jobs, c.order, c.times)
	}
	far := repeat(api.MaxStored, api.MaxPosition, 0)
	times := Finish(api.MaxTime, far, turned(ascending(api.MaxStored)))
	for i, end := range times {
		if end != api.MaxTime+200*(i+1) { // beyond the greatest time
			t.Fatal(times)
		}
	}
	if len(times) != api.MaxStored {
		t.Error(times)
	}
}

func TestCheck(t *testing.T) { // P18.1, P18.2
	jobs := made(at{2, 30}, at{1, 9}, at{0, 30})
	for _, c := range []struct {
		now   int
		order []int
		e     api.Errno
	}{
		{5, []int{1, 0, 2}, api.OK},
		{5, []int{1, 2, 0}, api.OK}, // not the order by due times
		{3, []int{2, 1, 0}, api.OK},
		{4, []int{2, 1, 0}, api.ErrLate},
		{5, []int{2, 1, 0}, api.ErrLate}, // the one in the middle
		{5, []int{0, 1, 2}, api.ErrLate},
		{5, []int{0, 2, 1}, api.ErrLate},  // the last one
		{6, []int{1, 0, 2}, api.ErrLate},  // the first one
		{22, []int{0, 2, 1}, api.ErrLate}, // the last one, and the one before it has no time to spare
		{5, nil, api.ErrOrder},
		{5, []int{1}, api.ErrOrder},
		{5, []int{1, 0}, api.ErrOrder},
		{5, []int{1, 0, 2, 2}, api.ErrOrder},
		{5, []int{1, 0, 2, 3}, api.ErrOrder},
		{5, []int{1, 1, 2}, api.ErrOrder},
		{5, []int{1, 0, 0}, api.ErrOrder},
		{5, []int{1, 2, 1}, api.ErrOrder},
		{5, []int{1, 0, 3}, api.ErrOrder},
		{5, []int{3, 2, 1}, api.ErrOrder},
		{5, []int{-1, 0, 1}, api.ErrOrder},
		{5, []int{1, 0, -1}, api.ErrOrder},
		{5, []int{1, 0, math.MaxInt}, api.ErrOrder},
		{5, []int{1, math.MinInt, 0}, api.ErrOrder},
		{5, []int{1, 1 << 32, 2}, api.ErrOrder},
		{40, []int{1, 0}, api.ErrOrder}, // late as well
		{40, []int{1, 0, 1}, api.ErrOrder},
		{40, []int{0, 1, 3}, api.ErrOrder},
	} {
		expectCheck(t, c.now, jobs, c.order, c.e)
		if times := Finish(c.now, jobs, c.order); (c.e == api.ErrOrder) != (len(times) == 0) {
			t.Error(c, times)
		}
	}
	for _, order := range [][]int{{0}, {-1}, {0, 1}} { // of no jobs
		expectCheck(t, 0, nil, order, api.ErrOrder)
		expectTimes(t, 0, nil, order, nil)
	}
	expectCheck(t, 0, nil, nil, api.OK)
	expectCheck(t, 0, repeat(1, 0, 2), []int{0}, api.OK)
	expectCheck(t, 0, repeat(1, 0, 1), []int{0}, api.ErrLate)
	expectCheck(t, 0, repeat(1, 0, 2), []int{1}, api.ErrOrder)
}

func TestCheckOfManyJobs(t *testing.T) { // P18.1, P18.2: a wrong index in each place
	const n = api.MaxStored
	jobs := repeat(n, 0, 2*n)
	for i := range n {
		expectCheck(t, 0, jobs, slices.Concat(ascending(n)[i:], ascending(n)[:i]), api.OK)
		for _, x := range []int{(i + 1) % n, (i + n - 1) % n, -1, n, n + 1, math.MinInt} {
			order := ascending(n)
			order[i] = x
			expectCheck(t, 0, jobs, order, api.ErrOrder)
			expectTimes(t, 0, jobs, order, nil)
		}
		late := slices.Clone(jobs)
		late[i].Due = 2*i + 1
		expectCheck(t, 0, late, ascending(n), api.ErrLate)
		late[i].Due++
		expectCheck(t, 0, late, ascending(n), api.OK)
	}
}
