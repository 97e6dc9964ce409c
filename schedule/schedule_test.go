package schedule

import (
	"math"
	"slices"
	"testing"

	"baggage/api"
)

// Numbers that are no times, no stands and no states. Some of them are allowed numbers in fewer bits.
var (
	noTimes  = []int{math.MinInt, math.MinInt + 1, -api.MaxTime, -2, -1, api.MaxTime + 1, api.MaxTime + 2, 1<<32 + 3, 1 << 62, math.MaxInt - 1, math.MaxInt}
	noStands = []int{math.MinInt, -api.MaxStand, -2, -1, api.MaxStand + 1, api.MaxStand + 2, 256 + 3, 1<<32 + 3, math.MaxInt}
	noStates = []int{math.MinInt, -2, -1, 3, 4, 256, 256 + 1, 1 << 32, 1<<32 + 2, math.MaxInt}
)

// sk is a flight with a number, dep its departure.
func sk(number int) api.Flight { return api.Flight{Carrier: "SK", Number: number, Day: 7} }

func dep(number, opens, closes, leaves int) api.Departure {
	return api.Departure{Flight: sk(number), Port: "CPH", Opens: opens, Closes: closes, Leaves: leaves, Stand: 4}
}

// of is a departure of a flight.
func of(f api.Flight) api.Departure {
	d := dep(1, 10, 20, 25)
	d.Flight = f
	return d
}

// in returns a departure in a state.
func in(d api.Departure, state int) api.Departure {
	d.State = state
	return d
}

// with returns a departure after a change.
func with(d api.Departure, change func(*api.Departure)) api.Departure {
	change(&d)
	return d
}

// many returns n departures in order.
func many(n int) []api.Departure {
	l := make([]api.Departure, n)
	for i := range l {
		l[i] = dep(i+1, 0, 1, 1)
	}
	return l
}

func expectValidate(t *testing.T, l []api.Departure, want api.Errno) {
	t.Helper()
	if e := Validate(l); e != want {
		t.Fatalf("Validate of %v: %d, not %d", l, e, want)
	}
}

// expectResult checks the schedule and the error of a function: the old schedule with another departure at an index, or an error and nothing.
func expectResult(t *testing.T, got []api.Departure, e api.Errno, l []api.Departure, i int, d api.Departure, want api.Errno) {
	t.Helper()
	if e != want {
		t.Fatalf("error %d, not %d: %v", e, want, l)
	}
	var other []api.Departure
	if want == api.OK {
		other = slices.Replace(slices.Clone(l), i, i+1, d)
		expectValidate(t, got, api.OK) // a consequence
	}
	if !slices.Equal(got, other) {
		t.Fatalf("%v becomes %v, not %v", l, got, other)
	}
}

// expectApplied checks a revision that is applied to the departure at an index, which becomes d.
func expectApplied(t *testing.T, l []api.Departure, i, kind, amount, now int, d api.Departure) {
	t.Helper()
	got, e := Apply(l, api.Revision{Kind: kind, Amount: amount, Flight: l[i].Flight}, now)
	expectResult(t, got, e, l, i, d, api.OK)
}

// expectRefused checks a revision that is not applied.
func expectRefused(t *testing.T, l []api.Departure, f api.Flight, kind, amount, now int, want api.Errno) {
	t.Helper()
	got, e := Apply(l, api.Revision{Kind: kind, Amount: amount, Flight: f}, now)
	expectResult(t, got, e, l, 0, api.Departure{}, want)
}

func expectGone(t *testing.T, l []api.Departure, i, now int) {
	t.Helper()
	got, e := Depart(l, l[i].Flight, now)
	expectResult(t, got, e, l, i, in(l[i], api.DepGone), api.OK)
}

func expectStays(t *testing.T, l []api.Departure, f api.Flight, now int, want api.Errno) {
	t.Helper()
	got, e := Depart(l, f, now)
	expectResult(t, got, e, l, 0, api.Departure{}, want)
}

func TestLengths(t *testing.T) { // P20.1
	for n := range api.MaxDepartures + 1 {
		expectValidate(t, many(n), api.OK)
	}
	for _, n := range []int{25, 26, 40, 280, 1000} {
		expectValidate(t, many(n), api.ErrLimit)
	}
	for i := range 25 { // the limit comes before what is wrong with a departure
		l := many(25)
		l[i] = api.Departure{}
		expectValidate(t, l, api.ErrLimit)
		l[i] = l[24-i]
		expectValidate(t, l, api.ErrLimit)
	}
	expectValidate(t, make([]api.Departure, 25), api.ErrLimit)
	expectValidate(t, make([]api.Departure, 24), api.ErrRange)
}

func TestValidDepartures(t *testing.T) { // P20.1: the ends of ranges
	for _, times := range [][3]int{{0, 1, 1}, {0, 1, 2}, {0, 1, most}, {0, most, most}, {most - 1, most, most}, {most - 2, most - 1, most - 1}, {most - 2, most - 1, most}, {10, 11, 11}, {10, 20, 20}, {10, 20, 25}} {
		expectValidate(t, []api.Departure{dep(5, times[0], times[1], times[2])}, api.OK)
	}
	for stand := range api.MaxStand + 1 {
		expectValidate(t, []api.Departure{with(dep(5, 10, 20, 25), func(d *api.Departure) { d.Stand = stand })}, api.OK)
	}
	for _, state := range []int{api.DepPlanned, api.DepCancelled, api.DepGone} {
		expectValidate(t, []api.Departure{in(dep(5, 10, 20, 25), state)}, api.OK)
	}
	for _, port := range []string{"AAA", "ZZZ", "ARN", "QQQ"} {
		expectValidate(t, []api.Departure{with(dep(5, 10, 20, 25), func(d *api.Departure) { d.Port = port })}, api.OK)
	}
	for _, f := range []api.Flight{{Carrier: "SK", Number: 1, Day: 0}, {Carrier: "4U", Number: 9999, Suffix: "Z", Day: api.MaxDay}, {Carrier: "U4", Number: 10, Suffix: "A", Day: 9}} {
		expectValidate(t, []api.Departure{of(f)}, api.OK)
	}
}

// wrong returns departures that are not valid, each for one reason.
func wrong() []api.Departure {
	good := dep(5, 10, 20, 25)
	l := []api.Departure{{}, dep(5, 20, 20, 25), dep(5, 21, 20, 25), dep(5, 10, 20, 19), dep(5, 10, 10, 10), dep(5, 0, 0, 0), dep(5, 0, 0, 1), dep(5, 25, 20, 10), dep(5, api.MaxTime, api.MaxTime, api.MaxTime), dep(5, 20, 10, 25), dep(5, 10, 26, 25)}
	for _, x := range noTimes {
		l = append(l, dep(5, x, 20, 25), dep(5, 10, x, 25), dep(5, 10, 20, x), dep(5, 10, x, x), dep(5, x, x, x), dep(5, min(x, x-1), x, x), dep(5, x, max(x, x+1), max(x, x+1)))
	}
	for _, x := range noStands {
		l = append(l, with(good, func(d *api.Departure) { d.Stand = x }))
	}
	for _, x := range noStates {
		l = append(l, in(good, x))
	}
	for _, port := range []string{"", "C", "CP", "CPHX", "cph", "CP1", "CP ", " CPH", "CPH\x00", "ÅR", "\xff\xfe\xfd"} {
		l = append(l, with(good, func(d *api.Departure) { d.Port = port }))
	}
	for _, f := range []api.Flight{{}, {Carrier: "12", Number: 5}, {Carrier: "S", Number: 5}, {Carrier: "SKA", Number: 5}, {Carrier: "sk", Number: 5}, {Number: 5}, {Carrier: "SK"}, {Carrier: "SK", Number: -1}, {Carrier: "SK", Number: 10000}, {Carrier: "SK", Number: 5, Suffix: "a"}, {Carrier: "SK", Number: 5, Suffix: "AB"}, {Carrier: "SK", Number: 5, Suffix: "1"}, {Carrier: "SK", Number: 5, Day: -1}, {Carrier: "SK", Number: 5, Day: api.MaxDay + 1}, {Carrier: "SK", Number: 1<<32 + 5}} {
		l = append(l, of(f))
	}
	return l
}

func TestWrongDepartures(t *testing.T) { // P20.1, and the first error of P20.3 and P20.4
	for _, d := range wrong() {
		expectValidate(t, []api.Departure{d}, api.ErrRange)
		for i := range 5 {
			l := many(5)
			l[i] = d
			expectValidate(t, l, api.ErrRange)
			expectRefused(t, l, sk(1), api.RevCancel, 0, 0, api.ErrRange)
			expectRefused(t, l, sk(9), 0, 0, 0, api.ErrRange)
			expectStays(t, l, sk(1), 1, api.ErrRange)
			expectStays(t, l, sk(9), 1, api.ErrRange)
		}
	}
}

func TestOrderOfFlights(t *testing.T) { // P20.1: by Carrier, Number, Suffix and Day, bytewise
	l := []api.Flight{
		{Carrier: "4U", Number: 9000, Suffix: "B", Day: 9},
		{Carrier: "9A", Number: 1, Day: 0},
		{Carrier: "A9", Number: 1, Day: 0},
		{Carrier: "AA", Number: 1, Day: 0},
		{Carrier: "SK", Number: 9, Day: 7},
		{Carrier: "SK", Number: 10, Day: 6},
		{Carrier: "SK", Number: 10, Day: 7},
		{Carrier: "SK", Number: 10, Suffix: "A", Day: 5},
		{Carrier: "SK", Number: 10, Suffix: "B", Day: 4},
		{Carrier: "SK", Number: 100, Day: 3},
	}
	for i := range l {
		for k := range l {
			want := api.OK
			switch {
			case k == i:
				want = api.ErrDuplicate
			case k < i:
				want = api.ErrOrder
			}
			expectValidate(t, []api.Departure{of(l[i]), of(l[k])}, want)
		}
	}
	var all []api.Departure
	for _, f := range l {
		all = append(all, of(f))
	}
	expectValidate(t, all, api.OK)
}

func TestDuplicates(t *testing.T) { // P20.1: flights are compared, not departures
	good := dep(5, 10, 20, 25)
	for _, d := range []api.Departure{good, in(good, api.DepCancelled), in(good, api.DepGone), dep(5, 0, 9, 9), dep(5, 30, 40, 45), with(good, func(d *api.Departure) { d.Port = "ARN" }), with(good, func(d *api.Departure) { d.Stand = 5 })} {
		expectValidate(t, []api.Departure{good, d}, api.ErrDuplicate)
		expectValidate(t, []api.Departure{d, good}, api.ErrDuplicate)
		expectValidate(t, []api.Departure{dep(4, 10, 20, 25), d, good, dep(6, 10, 20, 25)}, api.ErrDuplicate)
		expectValidate(t, []api.Departure{d, dep(6, 10, 20, 25), good}, api.ErrOrder) // only with the one before it
		expectRefused(t, []api.Departure{good, d}, sk(5), api.RevStand, 1, 0, api.ErrDuplicate)
		expectStays(t, []api.Departure{good, d}, sk(5), 20, api.ErrDuplicate)
	}
	for _, d := range []api.Departure{dep(6, 1, 2, 3), dep(6, 30, 40, 45), with(dep(6, 10, 20, 25), func(d *api.Departure) { d.Port = "ARN" })} { // nothing but flights is in order
		expectValidate(t, []api.Departure{good, d}, api.OK)
	}
}

func TestOrderOfErrors(t *testing.T) { // P20.1: departure by departure
	a, b, c := dep(4, 10, 20, 25), dep(5, 10, 20, 25), dep(6, 10, 20, 25)
	bad := func(d api.Departure) api.Departure { return with(d, func(d *api.Departure) { d.Stand = -1 }) }
	for i, x := range []struct {
		l    []api.Departure
		want api.Errno
	}{
		{[]api.Departure{b, bad(b)}, api.ErrRange},
		{[]api.Departure{b, bad(a)}, api.ErrRange},
		{[]api.Departure{bad(b), b}, api.ErrRange},
		{[]api.Departure{b, b, bad(c)}, api.ErrDuplicate},
		{[]api.Departure{b, a, bad(c)}, api.ErrOrder},
		{[]api.Departure{b, b, a}, api.ErrDuplicate},
		{[]api.Departure{b, a, a}, api.ErrOrder},
		{[]api.Departure{b, c, a, a}, api.ErrOrder},
		{[]api.Departure{a, b, bad(c), c}, api.ErrRange},
		{[]api.Departure{a, b, c, bad(c)}, api.ErrRange},
		{[]api.Departure{a, a, {}}, api.ErrDuplicate},
		{[]api.Departure{a, {}, {}}, api.ErrRange},
	} {
		if e := Validate(x.l); e != x.want {
			t.Errorf("%d: %d, not %d", i, e, x.want)
		}
	}
}

func TestFind(t *testing.T) { // P20.1
	l := many(24)
	for i := range l {
		if got := Find(l, sk(i+1)); got != i {
			t.Error(i, got)
		}
	}
	f := api.Flight{Carrier: "SK", Number: 12, Suffix: "A", Day: 7}
	for _, other := range []api.Flight{{}, {Carrier: "SA", Number: 12, Suffix: "A", Day: 7}, {Carrier: "sk", Number: 12, Suffix: "A", Day: 7}, {Carrier: "SK", Number: 13, Suffix: "A", Day: 7}, {Carrier: "SK", Number: 1<<32 + 12, Suffix: "A", Day: 7}, {Carrier: "SK", Number: 12, Suffix: "B", Day: 7}, {Carrier: "SK", Number: 12, Day: 7}, {Carrier: "SK", Number: 12, Suffix: "A", Day: 8}} {
		for _, c := range []struct {
			l    []api.Departure
			want int
		}{
			{nil, -1}, {[]api.Departure{of(other)}, -1}, {[]api.Departure{of(f)}, 0}, {[]api.Departure{of(other), of(f)}, 1}, {[]api.Departure{of(f), of(other), of(f)}, 0}, {[]api.Departure{of(other), of(f), of(f)}, 1}, {[]api.Departure{of(other), of(other)}, -1},
		} {
			if got := Find(c.l, f); got != c.want {
				t.Errorf("%v in %v: %d, not %d", f, c.l, got, c.want)
			}
		}
		if got := Find([]api.Departure{of(f), of(other), of(other)}, other); got != 1 { // also of a flight that is not valid
			t.Error(other, got)
		}
	}
	if got := Find(make([]api.Departure, 3), api.Flight{}); got != 0 {
		t.Error(got)
	}
	odd := []api.Departure{{Flight: sk(3), State: 7}, {Flight: sk(2), Stand: -1}, {Flight: sk(2)}, {Flight: sk(1), State: api.DepGone}}
	for number, want := range map[int]int{1: 3, 2: 1, 3: 0, 4: -1} {
		if got := Find(odd, sk(number)); got != want {
			t.Error(number, got)
		}
	}
}

func TestOpenAndClosed(t *testing.T) { // P20.2
	for _, c := range []struct {
		opens, closes, now int
		open, closed       bool
	}{
		{10, 20, 9, false, false}, {10, 20, 10, true, false}, {10, 20, 11, true, false}, {10, 20, 19, true, false}, {10, 20, 20, false, true}, {10, 20, 21, false, true}, // the example
		{10, 20, math.MinInt, false, false}, {10, 20, math.MaxInt, false, true}, {10, 20, -1, false, false}, {10, 20, 1<<32 + 15, false, true},
		{0, 1, -1, false, false}, {0, 1, 0, true, false}, {0, 1, 1, false, true},
		{5, 5, 4, false, false}, {5, 5, 5, false, true}, {5, 5, 6, false, true}, // not valid
		{5, -3, 5, false, true}, {5, -3, -4, false, false}, {5, -3, -3, false, true}, {5, -3, 0, false, true},
		{-9, -3, -10, false, false}, {-9, -3, -9, true, false}, {-9, -3, -4, true, false}, {-9, -3, -3, false, true},
		{math.MinInt, math.MaxInt, math.MinInt, true, false}, {math.MinInt, math.MaxInt, 0, true, false}, {math.MinInt, math.MaxInt, math.MaxInt - 1, true, false}, {math.MinInt, math.MaxInt, math.MaxInt, false, true},
		{0, math.MinInt, 0, false, true}, {0, math.MinInt, math.MinInt, false, true}, {math.MinInt, math.MinInt, math.MinInt, false, true}, {math.MaxInt, math.MinInt, math.MaxInt, false, true}, {math.MaxInt, math.MaxInt, math.MaxInt, false, true}, {math.MaxInt, math.MaxInt, math.MaxInt - 1, false, false},
	} {
		for _, leaves := range []int{25, 0, -1, c.now, math.MinInt, math.MaxInt} { // Leaves does not matter
			d := dep(1, c.opens, c.closes, leaves)
			for _, d := range []api.Departure{d, {Opens: d.Opens, Closes: d.Closes, Leaves: d.Leaves, Stand: -1}} {
				if IsOpen(d, c.now) != c.open || IsClosed(d, c.now) != c.closed {
					t.Fatal(c, d)
				}
			}
			for _, state := range slices.Concat(noStates, []int{api.DepCancelled, api.DepGone}) {
				if d := in(d, state); IsOpen(d, c.now) || !IsClosed(d, c.now) {
					t.Fatal(c, d)
				}
			}
		}
	}
}

func TestNext(t *testing.T) { // P20.2
	odd := []api.Departure{dep(9, 9, 1, -4), dep(9, 0, 0, math.MaxInt), dep(0, 0, 0, math.MinInt), in(dep(1, 0, 1, -3), 7), in(dep(1, 0, 1, 2), -1), dep(2, 7, 7, 2), dep(2, 5, 6, 2)}
	some := []api.Departure{dep(1, 0, 5, 30), in(dep(2, 0, 5, 10), api.DepCancelled), dep(3, 0, 5, 20), dep(4, 0, 5, 20), in(dep(5, 0, 5, 12), api.DepGone), dep(6, 0, 5, 40)}
	for _, c := range []struct {
		l         []api.Departure
		now, want int
	}{
		{nil, 0, -1}, {[]api.Departure{{}}, 0, 0}, {[]api.Departure{{}}, 1, -1}, {[]api.Departure{{}}, -1, 0},
		{[]api.Departure{dep(1, 10, 20, 25)}, 24, 0}, {[]api.Departure{dep(1, 10, 20, 25)}, 25, 0}, {[]api.Departure{dep(1, 10, 20, 25)}, 26, -1}, {[]api.Departure{dep(1, 10, 20, 25)}, math.MinInt, 0}, {[]api.Departure{dep(1, 10, 20, 25)}, math.MaxInt, -1},
		{some, -9, 2}, {some, 0, 2}, {some, 10, 2}, {some, 12, 2}, {some, 20, 2}, {some, 21, 0}, {some, 30, 0}, {some, 31, 5}, {some, 40, 5}, {some, 41, -1}, {some, math.MaxInt, -1}, {some, math.MinInt, 2},
		{some[1:2], 0, -1}, {some[4:5], 0, -1}, {some[2:4], 20, 0}, {some[3:], 20, 0},
		{odd, math.MinInt, 2}, {odd, math.MinInt + 1, 0}, {odd, -4, 0}, {odd, -3, 5}, {odd, 2, 5}, {odd, 3, 1}, {odd, math.MaxInt, 1}, {odd[2:], 3, -1}, {odd[3:5], math.MinInt, -1},
	} {
		if got := Next(c.l, c.now); got != c.want {
			t.Errorf("Next of %v at %d: %d, not %d", c.l, c.now, got, c.want)
		}
	}
}
