package crane

import (
	"slices"
	"testing"

	"baggage/api"
)

// random is a sequence of numbers that looks random.
type random uint32

// below returns a number from 0 to n-1.
func (r *random) below(n int) int {
	*r = *r*1664525 + 1013904223
	return int(*r>>8) % n
}

// jobs returns n jobs at positions below some number, which are due at times up to another one.
func (r *random) jobs(n, positions, latest int) []api.Job {
	l := make([]api.Job, n)
	for i := range l {
		l[i] = api.Job{Position: r.below(positions), Due: r.below(latest + 1)}
	}
	return l
}

// permutations returns all orders of n jobs.
func permutations(n int) [][]int {
	if n == 0 {
		return [][]int{nil}
	}
	var all [][]int
	for _, l := range permutations(n - 1) {
		for i := range n {
			all = append(all, slices.Insert(slices.Clone(l), i, n-1))
		}
	}
	return all
}

// shuffled returns an order of n jobs.
func (r *random) shuffled(n int) []int {
	l := ascending(n)
	for i := range l {
		j := r.below(i + 1)
		l[i], l[j] = l[j], l[i]
	}
	return l
}

// ends is a second reading of the finish times, tick by tick: the crane goes to the position, takes the bag, comes back and puts it down.
func ends(now int, jobs []api.Job, order []int) []int {
	var times []int
	for _, i := range order {
		for range jobs[i].Position {
			now++
		}
		now++
		for range jobs[i].Position {
			now++
		}
		now++
		times = append(times, now)
	}
	return times
}

// inTime reports whether no job is late in an order.
func inTime(now int, jobs []api.Job, order []int) bool {
	for place, end := range ends(now, jobs, order) {
		if end > jobs[order[place]].Due {
			return false
		}
	}
	return true
}

// sorted is a second reading of the order by due times: each time the first job is taken that is due first.
func sorted(jobs []api.Job) []int {
	var order []int
	taken := make([]bool, len(jobs))
	for range jobs {
		best := -1
		for i, j := range jobs {
			if !taken[i] && (best < 0 || j.Due < jobs[best].Due) {
				best = i
			}
		}
		order, taken[best] = append(order, best), true
	}
	return order
}

// overload is a second reading of P18.3: each beginning of the order is tried, from the shortest one on.
func overload(now int, jobs []api.Job) []int {
	order := sorted(jobs)
	for n := 1; n <= len(order); n++ {
		sum := now
		for _, i := range order[:n] {
			sum += 2 * (jobs[i].Position + 1)
		}
		if sum > jobs[order[n-1]].Due {
			return order[:n]
		}
	}
	return nil
}

// compare holds all functions against the second readings, and reports whether there is an order without late jobs.
func compare(t *testing.T, now int, jobs []api.Job) bool {
	t.Helper()
	order := sorted(jobs)
	times := ends(now, jobs, order)
	late := overload(now, jobs)
	if len(late) == 0 {
		expect(t, now, jobs, order, times)
		return true
	}
	expectLate(t, now, jobs, late...)
	expectTimes(t, now, jobs, order, times)
	expectCheck(t, now, jobs, order, api.ErrLate)
	prove(t, now, jobs)
	return false
}

// prove checks that an overload is a proof: its jobs, each of which is there once, end after all of their due times in every order.
func prove(t *testing.T, now int, jobs []api.Job) {
	t.Helper()
	proof := Overload(now, jobs)
	for place, i := range proof {
		if i < 0 || i >= len(jobs) || slices.Contains(proof[:place], i) {
			t.Fatal(jobs, proof)
		}
		now += Cost(jobs[i].Position)
	}
	for _, i := range proof {
		if now <= jobs[i].Due {
			t.Fatal(jobs, proof)
		}
	}
}

// all returns all lists of n of some jobs.
func all(n int, some []api.Job) [][]api.Job {
	if n == 0 {
		return [][]api.Job{nil}
	}
	var lists [][]api.Job
	for _, l := range all(n-1, some) {
		for _, j := range some {
			lists = append(lists, append(slices.Clone(l), j))
		}
	}
	return lists
}

func TestAllShortLists(t *testing.T) { // P18.2, P18.3, P18.4 and the consequence: against all orders
	var some []api.Job
	for position := range 2 {
		for due := 1; due <= 11; due++ {
			some = append(some, api.Job{Position: position, Due: due})
		}
	}
	both := map[bool]int{}
	for n := range 4 {
		orders := permutations(n)
		for _, jobs := range all(n, some) {
			got := compare(t, 0, jobs)
			if want := expectOrders(t, 0, jobs, orders); got != want {
				t.Fatal(jobs, got, want)
			}
			both[got]++
		}
	}
	if min(both[true], both[false]) < 1000 {
		t.Error("one-sided:", both)
	}
}

// expectOrders checks what Finish and Check say of orders, and reports whether no job is late in one of them.
func expectOrders(t *testing.T, now int, jobs []api.Job, orders [][]int) bool {
	t.Helper()
	one := false
	for _, order := range orders {
		want := api.ErrLate
		if inTime(now, jobs, order) {
			one, want = true, api.OK
		}
		expectCheck(t, now, jobs, order, want)
		expectTimes(t, now, jobs, order, ends(now, jobs, order))
	}
	return one
}

func TestAllOrdersOfSomeLists(t *testing.T) { // P18.1, P18.2, P18.4 and the consequence: up to six jobs
	r, both := random(1), map[bool]int{}
	for range 400 {
		n := r.below(7)
		now, jobs := r.below(10), r.jobs(n, 5, 0)
		for i := range jobs {
			jobs[i].Due = now + 1 + r.below(10*n)
		}
		got := compare(t, now, jobs)
		if want := expectOrders(t, now, jobs, permutations(n)); got != want {
			t.Fatal(now, jobs, got, want)
		}
		both[got]++
	}
	if min(both[true], both[false]) < 60 {
		t.Error("one-sided:", both)
	}
}

func TestManyLists(t *testing.T) { // P18.1, P18.2, P18.3, W9
	r, both, lengths := random(2), map[bool]int{}, map[int]bool{}
	for k := range 6000 {
		n := r.below(api.MaxStored + 1)
		positions := []int{1, 3, 30, api.MaxPosition + 1}[k%4]
		now, jobs := r.below([]int{1, 100, api.MaxTime + 1}[k%3]), r.jobs(n, positions, 0)
		total := 0
		for i := range jobs {
			total += Cost(jobs[i].Position)
		}
		for i, end := range ends(now, jobs, r.shuffled(n)) { // due about when they are finished in some order
			jobs[i].Due = min(end+r.below(1+total*(k%5)/4), api.MaxTime)
		}
		if n > 0 && r.below(2) == 0 {
			jobs[r.below(n)].Due = min(now+r.below(total+1), api.MaxTime)
		}
		both[compare(t, now, jobs)]++
		lengths[len(Overload(now, jobs))] = true
	}
	if min(both[true], both[false]) < 800 || len(lengths) < 60 {
		t.Error("one-sided:", both, len(lengths))
	}
}

func TestManyOrders(t *testing.T) { // P18.1, P18.2, P18.4: orders in which no job, or few jobs are late
	r, both := random(3), map[api.Errno]int{}
	for range 4000 {
		n := 1 + r.below(api.MaxStored)
		now, jobs, order := r.below(1000), r.jobs(n, api.MaxPosition+1, 0), r.shuffled(n)
		times := ends(now, jobs, order)
		for place, end := range times {
			jobs[order[place]].Due = end + r.below(2)*r.below(900)
		}
		if r.below(2) == 0 {
			place := r.below(n)
			jobs[order[place]].Due = times[place] - 1 - r.below(2)
		}
		want := api.ErrLate
		if inTime(now, jobs, order) {
			want = api.OK
		}
		expectCheck(t, now, jobs, order, want)
		expectTimes(t, now, jobs, order, times)
		if could := compare(t, now, jobs); want == api.OK && !could { // if there is an order, Plan finds one
			t.Fatal(now, jobs, order)
		}
		other := slices.Clone(order)
		other[r.below(n)] = order[r.below(n)]
		if !slices.Equal(order, other) {
			expectCheck(t, now, jobs, other, api.ErrOrder)
			expectTimes(t, now, jobs, other, nil)
		}
		both[want]++
	}
	if min(both[api.OK], both[api.ErrLate]) < 1500 {
		t.Error("one-sided:", both)
	}
}

func TestAllSmallOrders(t *testing.T) { // P18.1, P18.2: every list of up to four numbers
	jobs := made(at{1, 40}, at{0, 40}, at{2, 40})
	var lists func(l []int)
	lists = func(l []int) {
		want := api.ErrOrder
		if len(l) == 3 && slices.Contains(l, 0) && slices.Contains(l, 1) && slices.Contains(l, 2) {
			want = api.OK
		}
		expectCheck(t, 3, jobs, l, want)
		if times := Finish(3, jobs, l); (len(times) == 3) != (want == api.OK) {
			t.Fatal(l, times)
		}
		for i := -1; i <= 3 && len(l) < 4; i++ {
			lists(append(slices.Clone(l), i))
		}
	}
	lists(nil)
}
