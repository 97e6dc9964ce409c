package schedule

import (
	"math"
	"testing"

	"baggage/api"
)

const most = api.MaxTime

// some returns a schedule with a departure in each state.
func some() []api.Departure {
	return []api.Departure{dep(1, 10, 20, 25), in(dep(2, 5, 9, 9), api.DepCancelled), in(dep(3, 1, 2, 3), api.DepGone), dep(4, 0, 1, most-3)}
}

// kinds are all kinds of revisions, each with an amount that a departure like dep(1, 10, 20, 25) allows.
var kinds = []struct{ kind, amount int }{{api.RevDelay, 5}, {api.RevOpens, 12}, {api.RevStand, 99}, {api.RevCancel, 0}, {api.RevRestore, 0}}

// noKinds are numbers that are no kinds of revisions.
var noKinds = []int{math.MinInt, -5, -1, 0, 6, 7, 256 + 1, 1<<32 + 3, math.MaxInt}

func TestDelay(t *testing.T) { // P20.3
	l := some()
	for _, now := range []int{0, 9, 10, 19, 20, 25, 26, -1, math.MinInt, math.MaxInt} { // at any time
		expectApplied(t, l, 0, api.RevDelay, 5, now, dep(1, 10, 25, 30)) // the example
		expectApplied(t, l, 0, api.RevDelay, 1, now, dep(1, 10, 21, 26))
	}
	expectApplied(t, l, 0, api.RevDelay, most-25, 0, dep(1, 10, most-5, most))
	expectRefused(t, l, sk(1), api.RevDelay, most-24, 0, api.ErrRange)
	expectRefused(t, l, sk(1), api.RevDelay, most, 0, api.ErrRange)
	for _, x := range []int{1, 2, 3} {
		expectApplied(t, l, 3, api.RevDelay, x, 0, dep(4, 0, 1+x, most-3+x))
	}
	expectRefused(t, l, sk(4), api.RevDelay, 4, 0, api.ErrRange)
	for _, x := range noTimes {
		expectRefused(t, l, sk(1), api.RevDelay, x, 0, api.ErrRange)
	}
	expectRefused(t, l, sk(1), api.RevDelay, 0, 0, api.ErrRange)
	expectApplied(t, []api.Departure{dep(1, 0, 1, 1)}, 0, api.RevDelay, most-1, 0, dep(1, 0, most, most))
	expectRefused(t, []api.Departure{dep(1, 0, 1, 1)}, sk(1), api.RevDelay, most, 0, api.ErrRange)
	expectRefused(t, []api.Departure{dep(1, most-1, most, most)}, sk(1), api.RevDelay, 1, 0, api.ErrRange)
}

func TestOpens(t *testing.T) { // P20.3
	l := []api.Departure{dep(1, 10, 20, 25)}
	for amount := range 20 {
		for now := -3; now < 25; now++ {
			if now < 10 && now <= amount {
				expectApplied(t, l, 0, api.RevOpens, amount, now, dep(1, amount, 20, 25))
			} else {
				expectRefused(t, l, sk(1), api.RevOpens, amount, now, api.ErrLate)
			}
		}
	}
	for _, amount := range []int{20, 21, 25, 26, most - 1, most} { // it is late before it is too much
		for _, now := range []int{math.MinInt, -1, 0, 9} {
			expectRefused(t, l, sk(1), api.RevOpens, amount, now, api.ErrRange)
		}
		for _, now := range []int{10, 11, 20, 26, most + 1, math.MaxInt} {
			expectRefused(t, l, sk(1), api.RevOpens, amount, now, api.ErrLate)
		}
	}
	for _, amount := range noTimes { // and no time before it is late
		for _, now := range []int{math.MinInt, -1, 0, 9, 10, 11, 30, math.MaxInt} {
			expectRefused(t, l, sk(1), api.RevOpens, amount, now, api.ErrRange)
		}
	}
	expectApplied(t, l, 0, api.RevOpens, 0, math.MinInt, dep(1, 0, 20, 25))
	expectRefused(t, l, sk(1), api.RevOpens, 0, 1, api.ErrLate)
	late := []api.Departure{dep(1, 5, most, most)}
	expectApplied(t, late, 0, api.RevOpens, most-1, 4, dep(1, most-1, most, most))
	expectRefused(t, late, sk(1), api.RevOpens, most, 4, api.ErrRange)
	expectRefused(t, late, sk(1), api.RevOpens, most, 5, api.ErrLate)
}

func TestStand(t *testing.T) { // P20.3
	l := some()
	for stand := range api.MaxStand + 1 {
		d := dep(1, 10, 20, 25)
		d.Stand = stand
		for _, now := range []int{0, 15, 30, math.MinInt, math.MaxInt} {
			expectApplied(t, l, 0, api.RevStand, stand, now, d)
		}
	}
	for _, x := range noStands {
		expectRefused(t, l, sk(1), api.RevStand, x, 0, api.ErrRange)
	}
	expectRefused(t, l, sk(1), api.RevStand, most, 0, api.ErrRange)
}

func TestCancelAndRestore(t *testing.T) { // P20.3
	l := some()
	for _, now := range []int{0, 9, 10, 22, 99, -1, math.MinInt, math.MaxInt} {
		expectApplied(t, l, 0, api.RevCancel, 0, now, in(l[0], api.DepCancelled))
		expectApplied(t, l, 3, api.RevCancel, 0, now, in(l[3], api.DepCancelled))
		expectApplied(t, l, 1, api.RevRestore, 0, now, in(l[1], api.DepPlanned))
	}
	for _, x := range []int{math.MinInt, -1, 1, 2, 12, 99, most, 1 << 32, math.MaxInt} {
		expectRefused(t, l, sk(1), api.RevCancel, x, 0, api.ErrRange)
		expectRefused(t, l, sk(2), api.RevRestore, x, 0, api.ErrRange)
	}
}

func TestStates(t *testing.T) { // P20.3: each kind in each state
	for i := range 3 {
		for state := range 3 {
			for _, k := range kinds {
				l := []api.Departure{dep(1, 10, 20, 25), dep(2, 10, 20, 25), dep(3, 10, 20, 25)}
				l[i].State = state
				if state == api.DepPlanned && k.kind != api.RevRestore || state == api.DepCancelled && k.kind == api.RevRestore {
					if got, e := Apply(l, api.Revision{Kind: k.kind, Amount: k.amount, Flight: l[i].Flight}, 9); e != api.OK || len(got) != 3 {
						t.Error(k, state, got, e)
					}
					expectRefused(t, l, l[i].Flight, k.kind, -1, 9, api.ErrRange)
					continue
				}
				for _, amount := range []int{k.amount, 0, -1, 100, most + 1} { // the state comes before the amount
					for _, now := range []int{9, 10, 30} { // and before the time
						expectRefused(t, l, l[i].Flight, k.kind, amount, now, api.ErrState)
					}
				}
			}
		}
	}
}

func TestMissing(t *testing.T) { // P20.3, P20.4
	l := some()
	for _, f := range []api.Flight{sk(9), {}, {Carrier: "12", Number: 1, Day: 7}, {Carrier: "SK", Number: 1, Day: 8}, {Carrier: "SK", Number: 1, Suffix: "A", Day: 7}, {Carrier: "SA", Number: 1, Day: 7}, {Carrier: "SK", Number: 1<<32 + 1, Day: 7}} {
		for _, k := range kinds {
			for _, amount := range []int{k.amount, -1, most + 1} {
				expectRefused(t, l, f, k.kind, amount, 9, api.ErrMissing)
				expectRefused(t, nil, f, k.kind, amount, 9, api.ErrMissing)
			}
		}
		for _, now := range []int{0, 50, math.MinInt, math.MaxInt} {
			expectStays(t, l, f, now, api.ErrMissing)
			expectStays(t, nil, f, now, api.ErrMissing)
		}
	}
}

func TestKinds(t *testing.T) { // P20.3
	l := some()
	for _, kind := range noKinds {
		for _, f := range []api.Flight{sk(1), sk(2), sk(3), sk(9), {}} {
			for _, amount := range []int{0, 1, 12, -1, most + 1} {
				expectRefused(t, l, f, kind, amount, 0, api.ErrKind)
				expectRefused(t, nil, f, kind, amount, 0, api.ErrKind)
			}
		}
		for _, wrong := range [][]api.Departure{{l[1], l[0]}, {l[0], l[0]}, {{}}, many(25)} { // the schedule comes before the kind
			expectRefused(t, wrong, sk(1), kind, 0, 0, Validate(wrong))
		}
	}
	for _, k := range kinds {
		expectRefused(t, []api.Departure{l[1], l[0]}, sk(9), k.kind, -1, 0, api.ErrOrder)
		expectRefused(t, []api.Departure{l[0], l[0]}, sk(9), k.kind, -1, 0, api.ErrDuplicate)
		expectRefused(t, many(25), sk(99), k.kind, -1, 0, api.ErrLimit)
	}
}

func TestDepart(t *testing.T) { // P20.4
	l := some()
	for _, now := range []int{20, 21, 24, 25, 26, most, most + 1, 1<<32 + 15, math.MaxInt} { // also before and after Leaves
		expectGone(t, l, 0, now)
	}
	for _, now := range []int{math.MinInt, -1, 0, 9, 10, 15, 18, 19} { // the example
		expectStays(t, l, sk(1), now, api.ErrState)
	}
	for _, now := range []int{math.MinInt, 0, 2, 3, 5, 8, 9, 10, 50, math.MaxInt} { // cancelled or gone
		expectStays(t, l, sk(2), now, api.ErrState)
		expectStays(t, l, sk(3), now, api.ErrState)
	}
	expectGone(t, l, 3, 1)
	expectStays(t, l, sk(4), 0, api.ErrState)
	for _, wrong := range [][]api.Departure{{l[1], l[0]}, {l[0], l[0]}, {{}}, many(25)} {
		for _, f := range []api.Flight{sk(1), sk(2), sk(9), {}} {
			for _, now := range []int{0, 30} {
				expectStays(t, wrong, f, now, Validate(wrong))
			}
		}
	}
}

func TestEachPlace(t *testing.T) { // P20.3, P20.4: in long schedules, all other departures stay as they are
	for n := 1; n <= api.MaxDepartures; n++ {
		for i := range n {
			l := many(n)
			for k := range l {
				l[k] = dep(2*k+1, k, k+10, k+20)
				l[k].Stand, l[k].State = k, k%3
			}
			d := dep(2*i+1, 10, 20, 25)
			l[i] = d
			expectApplied(t, l, i, api.RevDelay, 5, 0, dep(2*i+1, 10, 25, 30))
			expectApplied(t, l, i, api.RevOpens, 12, 9, dep(2*i+1, 12, 20, 25))
			expectApplied(t, l, i, api.RevStand, 99, 0, with(d, func(d *api.Departure) { d.Stand = 99 }))
			expectApplied(t, l, i, api.RevCancel, 0, 0, in(d, api.DepCancelled))
			expectGone(t, l, i, 20)
			expectRefused(t, l, sk(2*i), api.RevCancel, 0, 0, api.ErrMissing)
			l[i] = in(d, api.DepCancelled)
			expectApplied(t, l, i, api.RevRestore, 0, 0, d)
		}
	}
}
