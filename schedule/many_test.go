package schedule

import (
	"math"
	"slices"
	"strings"
	"testing"

	"baggage/api"
	"baggage/flight"
)

// random is a sequence of numbers that looks random.
type random uint32

// below returns a number from 0 to n-1.
func (r *random) below(n int) int {
	*r = *r*1664525 + 1013904223
	return int(*r>>8) % n
}

// schedule returns a schedule of n departures with times below some number, which is now and then not valid.
func (r *random) schedule(n, latest int) []api.Departure {
	l := make([]api.Departure, n)
	number := 0
	for i := range l {
		number += 1 + r.below(3)
		closes := 1 + r.below(latest)
		l[i] = dep(number, r.below(closes), closes, closes+r.below(latest))
		l[i].Stand, l[i].State = r.below(100), r.below(4)%3
		if r.below(60) == 0 {
			l[i].Flight.Number -= r.below(4)
		}
		if r.below(100) == 0 {
			l[i].Closes, l[i].Leaves, l[i].State = r.below(latest), r.below(latest), r.below(4)
		}
	}
	return l
}

// revision returns a revision of a departure of a schedule, or now and then of a flight that has none.
func (r *random) revision(l []api.Departure, latest int) api.Revision {
	v := api.Revision{Kind: 1 + r.below(5), Amount: r.below(latest), Flight: sk(1 + r.below(50))}
	if len(l) > 0 && r.below(20) > 0 {
		v.Flight = l[r.below(len(l))].Flight
	}
	switch r.below(20) {
	case 0:
		v.Kind = r.below(8) - 1
	case 1:
		v.Amount -= r.below(100)
	}
	if v.Kind >= api.RevCancel && r.below(4) > 0 {
		v.Amount = 0
	}
	return v
}

// validated is a second reading of P20.1: the texts of flights are in the order of the flights.
func validated(l []api.Departure) api.Errno {
	if len(l) >= 25 {
		return api.ErrLimit
	}
	before := ""
	for _, d := range l {
		text := flight.Format(d.Flight)
		port := len(d.Port) == 3 && strings.Trim(d.Port, "ABCDEFGHIJKLMNOPQRSTUVWXYZ") == ""
		times := []int{0, d.Opens, d.Closes, d.Leaves, 1048576}
		rest := d.Stand >= 0 && d.Stand < 100 && d.State >= 0 && d.State < 3
		switch {
		case text == "" || !port || !slices.IsSorted(times) || d.Opens == d.Closes || !rest:
			return api.ErrRange
		case text == before:
			return api.ErrDuplicate
		case text < before:
			return api.ErrOrder
		}
		before = text
	}
	return api.OK
}

// index is a second reading of Find, from the end on.
func index(l []api.Departure, f api.Flight) int {
	found := -1
	for i, d := range slices.Backward(l) {
		if d.Flight == f {
			found = i
		}
	}
	return found
}

// applied is a second reading of P20.3: the departure that changes and what it becomes, kind by kind.
func applied(l []api.Departure, r api.Revision, now int) (int, api.Departure, api.Errno) {
	i := index(l, r.Flight)
	if e := validated(l); e != api.OK {
		return i, api.Departure{}, e
	}
	if r.Kind < 1 || r.Kind > 5 {
		return i, api.Departure{}, api.ErrKind
	}
	if i < 0 {
		return i, api.Departure{}, api.ErrMissing
	}
	d, wanted, greatest := l[i], []int{0, 0, 0, 0, 0, 1}[r.Kind], []int{0, 1048576, 1048576, 99, 0, 0}[r.Kind]
	if d.State != wanted {
		return i, api.Departure{}, api.ErrState
	}
	if r.Amount < 0 || r.Amount > greatest || r.Kind == 1 && r.Amount == 0 {
		return i, api.Departure{}, api.ErrRange
	}
	if r.Kind == 2 && (now > r.Amount || d.Opens <= now) {
		return i, api.Departure{}, api.ErrLate
	}
	changed := []api.Departure{
		{},
		{Opens: d.Opens, Closes: d.Closes + r.Amount, Leaves: d.Leaves + r.Amount, Stand: d.Stand},
		{Opens: r.Amount, Closes: d.Closes, Leaves: d.Leaves, Stand: d.Stand},
		{Opens: d.Opens, Closes: d.Closes, Leaves: d.Leaves, Stand: r.Amount},
		{Opens: d.Opens, Closes: d.Closes, Leaves: d.Leaves, Stand: d.Stand, State: 1},
		{Opens: d.Opens, Closes: d.Closes, Leaves: d.Leaves, Stand: d.Stand},
	}[r.Kind]
	changed.Flight, changed.Port = d.Flight, d.Port
	if validated([]api.Departure{changed}) != api.OK {
		return i, api.Departure{}, api.ErrRange
	}
	return i, changed, api.OK
}

// departed is a second reading of P20.4.
func departed(l []api.Departure, f api.Flight, now int) (int, api.Departure, api.Errno) {
	i := index(l, f)
	if e := validated(l); e != api.OK {
		return i, api.Departure{}, e
	}
	if i < 0 {
		return i, api.Departure{}, api.ErrMissing
	}
	d := l[i]
	if d.State != 0 || d.Closes > now {
		return i, api.Departure{}, api.ErrState
	}
	d.State = 2
	return i, d, api.OK
}

// compareApply holds Apply against the second reading, and returns the schedule and the error.
func compareApply(t *testing.T, l []api.Departure, r api.Revision, now int) ([]api.Departure, api.Errno) {
	t.Helper()
	i, d, want := applied(l, r, now)
	got, e := Apply(l, r, now)
	expectResult(t, got, e, l, i, d, want)
	return got, e
}

func compareDepart(t *testing.T, l []api.Departure, f api.Flight, now int) ([]api.Departure, api.Errno) {
	t.Helper()
	i, d, want := departed(l, f, now)
	got, e := Depart(l, f, now)
	expectResult(t, got, e, l, i, d, want)
	return got, e
}

func TestAllSmallNumbers(t *testing.T) { // P20.1 to P20.4: one departure
	results := map[[2]int]int{}
	for opens := -1; opens < 5; opens++ {
		for closes := -1; closes < 5; closes++ {
			for leaves := -1; leaves < 5; leaves++ {
				for state := -1; state < 4; state++ {
					l := []api.Departure{in(dep(1, opens, closes, leaves), state)}
					expectValidate(t, l, validated(l))
					for now := -1; now < 6; now++ {
						compareDepart(t, l, sk(1), now)
						for kind := -1; kind < 7; kind++ {
							for amount := -1; amount < 6; amount++ {
								_, e := compareApply(t, l, api.Revision{Kind: kind, Amount: amount, Flight: sk(1)}, now)
								results[[2]int{kind, int(e)}]++
							}
						}
					}
				}
			}
		}
	}
	for kind := 1; kind <= 5; kind++ {
		for _, e := range []api.Errno{api.OK, api.ErrRange, api.ErrState} {
			if results[[2]int{kind, int(e)}] < 50 {
				t.Error("seldom:", kind, e, results)
			}
		}
	}
	if results[[2]int{api.RevOpens, int(api.ErrLate)}] < 100 {
		t.Error("seldom:", results)
	}
}

func TestManySchedules(t *testing.T) { // P20.1 to P20.4
	r, results, left := random(1), map[api.Errno]int{}, map[api.Errno]int{}
	for range 60000 {
		latest := []int{6, 40, most / 2}[r.below(3)]
		l := r.schedule(r.below(26), latest)
		expectValidate(t, l, validated(l))
		v, now := r.revision(l, latest), r.below(2*latest)-1
		if got := Find(l, v.Flight); got != index(l, v.Flight) {
			t.Fatal(got, v.Flight, l)
		}
		_, e := compareApply(t, l, v, now)
		results[e]++
		_, e = compareDepart(t, l, v.Flight, now)
		left[e]++
	}
	for _, e := range []api.Errno{api.OK, api.ErrRange, api.ErrLimit, api.ErrKind, api.ErrDuplicate, api.ErrMissing, api.ErrState, api.ErrOrder, api.ErrLate} {
		if results[e] < 200 || left[e] < 200 && e != api.ErrKind && e != api.ErrLate {
			t.Error("seldom:", e, results, left)
		}
	}
}

func TestAllTimes(t *testing.T) { // P20.2, and the consequence: not open yet, open or closed
	for opens := -2; opens < 7; opens++ {
		for closes := -2; closes < 7; closes++ {
			for leaves := -2; leaves < 7; leaves++ {
				for state := -1; state < 4; state++ {
					var times []int // at which it is open
					for now := opens; now < closes && state == 0; now++ {
						times = append(times, now)
					}
					d := in(dep(1, opens, closes, leaves), state)
					for now := -4; now < 9; now++ {
						if IsOpen(d, now) != slices.Contains(times, now) || IsClosed(d, now) == (state == 0 && closes > now) {
							t.Fatal(d, now)
						}
						if validated([]api.Departure{d}) == api.OK && state == 0 {
							ways := 0
							for _, is := range []bool{now < d.Opens, IsOpen(d, now), IsClosed(d, now)} {
								if is {
									ways++
								}
							}
							if ways != 1 {
								t.Fatal(d, now)
							}
						}
					}
				}
			}
		}
	}
}

// following is a second reading of Next: it waits until a planned departure leaves.
func following(l []api.Departure, now, end int) int {
	for ; now <= end; now++ {
		for i, d := range l {
			if d.State == 0 && d.Leaves == now {
				return i
			}
		}
	}
	return -1
}

func TestManyNext(t *testing.T) { // P20.2
	r, same, none := random(2), 0, 0
	for range 5000 {
		l := r.schedule(r.below(30), 20)
		for now := -5; now < 45; now++ {
			i := following(l, now, 45)
			if got := Next(l, now); got != i {
				t.Fatal(got, i, now, l)
			}
			if i < 0 {
				none++
			} else if following(l[i+1:], l[i].Leaves, l[i].Leaves) >= 0 {
				same++
			}
		}
		want := following(l, -5, 45)
		if Next(l, math.MinInt) != want || Next(l, math.MaxInt) != -1 {
			t.Fatal(l)
		}
	}
	if min(same, none) < 5000 {
		t.Error("one-sided:", same, none)
	}
}

func TestTwoDelays(t *testing.T) { // a consequence: two delays have the effect of one delay by their sum
	r, both := random(3), map[bool]int{}
	for range 20000 {
		l := []api.Departure{dep(1, 10, 20, 25), dep(2, 10, most-r.below(60)-50, most-r.below(50))}
		delay := func(l []api.Departure, amount int) ([]api.Departure, api.Errno) {
			return Apply(l, api.Revision{Kind: api.RevDelay, Amount: amount, Flight: sk(2)}, 0)
		}
		a, b := 1+r.below(40), 1+r.below(40)
		once, e := delay(l, a+b)
		twice, f := delay(l, a)
		if f == api.OK {
			twice, f = delay(twice, b)
		}
		if e != f || !slices.Equal(once, twice) {
			t.Fatal(l, a, b, once, twice, e, f)
		}
		both[e == api.OK]++
	}
	if min(both[true], both[false]) < 2000 {
		t.Error("one-sided:", both)
	}
}

func TestCancelThenRestore(t *testing.T) { // a consequence: this restores the schedule
	r, restored := random(4), 0
	for range 5000 {
		l := r.schedule(1+r.below(24), 40)
		f := l[r.below(len(l))].Flight
		cancelled, e := Apply(l, api.Revision{Kind: api.RevCancel, Flight: f}, r.below(99))
		if e != api.OK {
			continue
		}
		again, e := Apply(cancelled, api.Revision{Kind: api.RevRestore, Flight: f}, r.below(99))
		if e != api.OK || !slices.Equal(again, l) {
			t.Fatal(l, f, again, e)
		}
		restored++
	}
	if restored < 1000 {
		t.Error("seldom:", restored)
	}
}

func TestStories(t *testing.T) { // the consequences: all schedules stay valid, and what is gone never changes
	r, changes, gone := random(5), 0, 0
	for range 300 {
		l := r.schedule(1+r.below(24), 60)
		if validated(l) != api.OK {
			continue
		}
		for now := range 120 {
			for range 3 {
				v := r.revision(l, 60)
				other, e := compareApply(t, l, v, now)
				if r.below(4) == 0 {
					other, e = compareDepart(t, l, v.Flight, now)
				}
				if e != api.OK {
					continue
				}
				for i, d := range l {
					if d.State == api.DepGone && other[i] != d {
						t.Fatal(d, other[i])
					}
				}
				l = other
				changes++
			}
		}
		for _, d := range l {
			if d.State == api.DepGone {
				gone++
			}
		}
	}
	if min(changes, gone) < 1000 {
		t.Error("seldom:", changes, gone)
	}
}
