package schedule

import (
	"math"
	"slices"
	"testing"

	"baggage/api"
)

// spare returns a schedule whose spare capacity is not empty.
func spare(l []api.Departure) []api.Departure {
	extra := dep(77, 1, 2, 3)
	return append(slices.Clone(l), extra, extra, extra)[:len(l)]
}

// spoil overwrites all departures of a schedule, also those in its spare capacity.
func spoil(l []api.Departure) {
	for i := range l[:cap(l)] {
		l[:cap(l)][i] = dep(88, 8, 8, 8)
	}
}

// sameMemory reports whether two schedules are equal, also in their spare capacity.
func sameMemory(a, b []api.Departure) bool {
	return len(a) == len(b) && slices.Equal(a[:cap(a)], b[:cap(b)])
}

// calls are ways to get a schedule from another one, with and without errors.
func calls() []func(l []api.Departure) []api.Departure {
	var all []func(l []api.Departure) []api.Departure
	for number := 1; number <= 5; number++ {
		for kind := range 7 {
			for _, amount := range []int{0, 1, 12, most} {
				all = append(all, func(l []api.Departure) []api.Departure {
					got, _ := Apply(l, api.Revision{Kind: kind, Amount: amount, Flight: sk(number)}, 0)
					return got
				})
			}
		}
		for _, now := range []int{0, 20} {
			all = append(all, func(l []api.Departure) []api.Departure {
				got, _ := Depart(l, sk(number), now)
				return got
			})
		}
	}
	return append(all, func(l []api.Departure) []api.Departure {
		return []api.Departure{{Opens: int(Validate(l)), Closes: Find(l, sk(3)), Leaves: Next(l, 9)}}
	})
}

func TestArgumentsAreKept(t *testing.T) { // rule 2
	changed := 0
	for i, call := range calls() {
		for _, old := range [][]api.Departure{some(), some()[:1], {some()[1], some()[0]}, nil} {
			l := spare(old)
			first, second := call(l), call(l)
			want := slices.Clone(first)
			spoil(first) // what is done to one result matters to nothing else
			if !sameMemory(l, spare(old)) {
				t.Fatal(i, l)
			}
			if !slices.Equal(second, want) {
				t.Fatal("memory of another result:", i, second)
			}
			spoil(l)
			if !slices.Equal(second, want) {
				t.Fatal("memory of an argument:", i, second)
			}
			if again := call(spare(old)); !slices.Equal(again, want) {
				t.Fatal("memory of the package:", i, again)
			}
			if len(want) > 1 {
				changed++
			}
		}
	}
	if changed < 10 {
		t.Error("seldom:", changed)
	}
}

func TestEmptySchedules(t *testing.T) { // rule 2: nil and empty schedules
	for _, l := range [][]api.Departure{nil, {}, make([]api.Departure, 0, 5), spare(nil)} {
		expectValidate(t, l, api.OK)
		if Find(l, sk(77)) != -1 || Find(l, api.Flight{}) != -1 || Next(l, math.MinInt) != -1 {
			t.Error(l)
		}
		expectRefused(t, l, sk(77), api.RevStand, 1, 0, api.ErrMissing)
		expectRefused(t, l, sk(77), 0, 1, 0, api.ErrKind)
		expectStays(t, l, sk(77), 2, api.ErrMissing)
	}
}

// odd returns a number that is at the end of a range, or beyond it.
func (r *random) odd() int {
	l := []int{math.MinInt, math.MinInt + 1, -2, -1, 0, 0, 0, 1, 1, 1, 2, 2, 3, 5, 6, 99, 100, 256, most - 1, most, most, most + 1, 1 << 40, math.MaxInt - 1, math.MaxInt}
	return l[r.below(len(l))]
}

func (r *random) oddFlight() api.Flight {
	carriers, suffixes := []string{"SK", "SK", "SK", "SK", "4U", "", "12", "\xff\x00"}, []string{"", "", "", "A", "AA", "\x00"}
	return api.Flight{Carrier: carriers[r.below(len(carriers))], Number: 1 + r.below(3), Suffix: suffixes[r.below(len(suffixes))], Day: r.below(2)}
}

func (r *random) oddDeparture() api.Departure {
	ports := []string{"CPH", "CPH", "CPH", "CPH", "ARN", "", "\xff\xff\xff"}
	times := [3]int{r.odd(), r.odd(), r.odd()}
	if r.below(2) > 0 {
		slices.Sort(times[:])
	}
	return api.Departure{Flight: r.oddFlight(), Port: ports[r.below(len(ports))], Opens: times[0], Closes: times[1], Leaves: times[2], Stand: r.below(100), State: r.below(3)}
}

func TestAnyArguments(t *testing.T) { // rule 1, rule 5, rule 6
	r, results := random(6), map[api.Errno]int{}
	for range 300000 {
		l := make([]api.Departure, r.below(3))
		for i := range l {
			l[i] = r.oddDeparture()
		}
		v := api.Revision{Kind: 1 + r.below(5), Amount: r.odd(), Flight: r.oddFlight()}
		if len(l) > 0 && r.below(3) > 0 {
			v.Flight = l[r.below(len(l))].Flight
		}
		now := r.odd()
		expectValidate(t, l, validated(l))
		_, e := compareApply(t, l, v, now)
		results[e]++
		compareDepart(t, l, v.Flight, now)
		if Find(l, v.Flight) != index(l, v.Flight) {
			t.Fatal(l, v.Flight)
		}
		for i, d := range l {
			planned, open, closed := d.State == 0, IsOpen(d, now), IsClosed(d, now)
			if open != (planned && d.Opens <= now && d.Closes > now) || closed != (!planned || d.Closes <= now) {
				t.Fatal(d, now)
			}
			if next := Next(l, now); planned && d.Leaves >= now && (next < 0 || l[next].Leaves > d.Leaves || l[next].Leaves == d.Leaves && next > i || l[next].Leaves < now) {
				t.Fatal(l, now, next)
			}
		}
	}
	for _, e := range []api.Errno{api.OK, api.ErrRange, api.ErrDuplicate, api.ErrMissing, api.ErrState, api.ErrOrder, api.ErrLate} {
		if results[e] < 10 {
			t.Error("seldom:", e, results)
		}
	}
}

func TestLargeArguments(t *testing.T) { // rule 1
	long := slices.Repeat([]api.Departure{dep(2, 10, 20, 25)}, 1000000)
	long[len(long)-1] = dep(3, 10, 20, 24)
	expectValidate(t, long, api.ErrLimit)
	if Find(long, sk(2)) != 0 || Find(long, sk(3)) != len(long)-1 || Find(long, sk(4)) != -1 || Next(long, 20) != len(long)-1 || Next(long, 25) != 0 {
		t.Error("long schedule")
	}
	expectRefused(t, long, sk(3), api.RevStand, 1, 0, api.ErrLimit)
	expectStays(t, long, sk(3), 20, api.ErrLimit)
}
