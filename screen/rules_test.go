package screen

import (
	"math"
	"slices"
	"testing"

	"baggage/api"
)

// full returns a screening with checks of all states and with spare capacity.
func full(t *testing.T) api.Screening {
	t.Helper()
	s := start(t, open(t, 5, 6, 7, 8), 10, 9, 1, 7, 3, 5)
	s = verdict(t, s, 2, true, 10, 1)
	s = raise(t, s, 10, 3, 4, 6, 7, 8)
	s = raise(t, s, 10, 5, 5)
	s.L = append(slices.Clone(s.L), api.Check{Bag: 11, Image: 1}, api.Check{Bag: 12, State: cleared})[:len(s.L)]
	return s
}

// whole reports whether two screenings are equal, also in the spare capacity of their lists.
func whole(a, b api.Screening) bool {
	return same(a, b) && cap(a.L) >= 7 && slices.Equal(a.L[:7], b.L[:7])
}

// spoil overwrites all elements of a list, also those in its spare capacity.
func spoil[T any](l []T, x T) {
	for i := range l[:cap(l)] {
		l[:cap(l)][i] = x
	}
}

// calls are ways to get a screening from another one, with and without errors.
func calls() []func(api.Screening) api.Screening {
	return []func(api.Screening) api.Screening{
		func(s api.Screening) api.Screening { x, _ := Start(s, 2, 11); return x },
		func(s api.Screening) api.Screening { x, _ := Start(s, 40, 11); return x },
		func(s api.Screening) api.Screening { x, _ := Start(s, 1, 11); return x },
		func(s api.Screening) api.Screening { x, _ := Expire(s, 11); return x },
		func(s api.Screening) api.Screening { x, _ := Expire(s, 16); return x },
		func(s api.Screening) api.Screening { x, _ := Expire(s, 17); return x },
		func(s api.Screening) api.Screening { x, _ := Expire(s, -1); return x },
		func(s api.Screening) api.Screening { x, _, _ := Verdict(s, 1, true, 11); return x },
		func(s api.Screening) api.Screening { x, _, _ := Verdict(s, 1, false, 11); return x },
		func(s api.Screening) api.Screening { x, _, _ := Verdict(s, 9, true, 16); return x },
		func(s api.Screening) api.Screening { x, _, _ := Verdict(s, 9, false, 16); return x },
		func(s api.Screening) api.Screening { x, _, _ := Verdict(s, 9, true, 17); return x },
		func(s api.Screening) api.Screening { x, _, _ := Verdict(s, 3, true, 16); return x },
	}
}

func TestArgumentsAreKept(t *testing.T) { // rule 2
	s := full(t)
	for i, call := range calls() {
		x := call(s)
		if !whole(s, full(t)) {
			t.Fatal(i, s)
		}
		spoil(x.L, api.Check{Bag: 77}) // and what is done to the result does not matter
		if !whole(s, full(t)) {
			t.Fatal("memory of the argument:", i, s)
		}
	}
	spoil(Cleared(s), 77)
	spoil(Alarms(s), api.Alarm{Bag: 77})
	Find(s, 1)
	Find(s, 2)
	if !whole(s, full(t)) {
		t.Error(s)
	}
	none := full(t)
	none.Next = api.MaxImage + 1 // what happens before the images are used up is not kept
	Expire(none, 17)
	Verdict(none, 1, false, 11)
	Start(none, 2, 11)
	none.Next = full(t).Next
	if !whole(none, full(t)) {
		t.Error(none)
	}
}

func TestNothingIsRetained(t *testing.T) { // rule 2: what is done to an argument later does not matter
	for i, call := range calls() {
		s := full(t)
		first, second := call(s), call(s)
		if !same(first, second) {
			t.Fatal(i, first, second)
		}
		spoil(s.L, api.Check{Bag: 77})
		if !same(first, second) {
			t.Fatal("memory of the argument:", i, first)
		}
		spoil(first.L, api.Check{Bag: 78})
		if !same(second, call(full(t))) {
			t.Fatal("memory of another result:", i, second)
		}
	}
	s := full(t)
	bags, alarms := Cleared(s), Alarms(s)
	spoil(Cleared(s), 78)
	spoil(Alarms(s), api.Alarm{Bag: 78})
	spoil(s.L, api.Check{Bag: 77})
	if !slices.Equal(bags, Cleared(full(t))) || !slices.Equal(alarms, Alarms(full(t))) {
		t.Error(bags, alarms)
	}
}

func TestNoChecks(t *testing.T) { // rule 2: nil and empty lists
	for _, l := range [][]api.Check{nil, {}, make([]api.Check, 0, 5)} {
		s := api.Screening{Limits: [4]int{1, 2, 3, 4}, Next: 1, L: l}
		x := start(t, s, 9, 4)
		expect(t, x, 2, api.Check{Bag: 4, Level: 1, Since: 9, Image: 1, State: pending})
		expect(t, expire(t, s, 9), 1)
		spoil(x.L, api.Check{Bag: 77})
		spoil(expire(t, s, 9).L, api.Check{Bag: 77})
		if len(s.L) != 0 || slices.ContainsFunc(l[:cap(l)], func(c api.Check) bool { return c != api.Check{} }) {
			t.Error(l[:cap(l)])
		}
		refuseVerdict(t, s, 1, 9, api.ErrMissing)
		if len(Cleared(s)) != 0 || len(Alarms(s)) != 0 {
			t.Error(s)
		}
	}
}

// odd returns a number that is at the end of a range, or beyond it.
func (r *random) odd() int {
	l := []int{math.MinInt, math.MinInt + 1, -2, -1, 0, 1, 2, 3, 4, 5, 6, 39, 40, 41, 256, api.MaxLimit, api.MaxTime, api.MaxTime + 1, api.MaxImage + 1, 1 << 40, math.MaxInt - 1, math.MaxInt}
	return l[r.below(len(l))]
}

func TestAnyArguments(t *testing.T) { // rule 1, rule 5: screenings that this package does not make
	r := random(4)
	for range 20000 {
		s := api.Screening{Limits: [4]int{r.odd(), r.odd(), r.odd(), r.odd()}, Next: r.odd()}
		for range r.below(6) {
			s.L = append(s.L, api.Check{Bag: r.odd(), Level: r.odd(), Since: r.odd(), Image: r.odd(), State: r.below(5)})
		}
		bag, now, image := r.odd(), r.odd(), r.odd()
		if x, e := New(s.Limits); e != api.OK && !same(x, api.Screening{}) {
			t.Fatal(x, e)
		}
		for range 2 {
			a, ea := Start(s, bag, now)
			b, eb := Expire(s, now)
			c, of, ec := Verdict(s, image, bag > 0, now)
			for i, e := range []api.Errno{ea, eb, ec} {
				if x := []api.Screening{a, b, c}[i]; e != api.OK && !same(x, api.Screening{}) {
					t.Fatal(s, x, e)
				}
			}
			if x, again, e := Verdict(s, image, bag > 0, now); !same(x, c) || again != of || e != ec || ec != api.OK && of != 0 {
				t.Fatal(s, x, again, e)
			}
			if check, ok := Find(s, bag); !ok && check != (api.Check{}) {
				t.Fatal(s, check)
			}
			if len(Cleared(s))+len(Alarms(s)) > len(s.L) {
				t.Fatal(s)
			}
		}
	}
}

func TestNoScreening(t *testing.T) { // rule 1
	s := api.Screening{}
	refuseVerdict(t, s, 0, 5, api.ErrMissing)
	expect(t, expire(t, s, 5), 0)
	if c, ok := Find(s, 0); ok || c != (api.Check{}) || len(Cleared(s)) != 0 || len(Alarms(s)) != 0 {
		t.Error(c, ok)
	}
}

func TestLargeArguments(t *testing.T) { // rule 1
	s := open(t, 5, 5, 5, 5)
	for i := range 100000 {
		s.L = append(s.L, api.Check{Bag: i + 100, Level: i % 6, Since: i % 7, Image: i, State: i % 5})
	}
	s.Next = len(s.L)
	if x := start(t, s, 3, 40); len(x.L) != len(s.L)+1 || x.L[0].Bag != 40 {
		t.Error(len(x.L))
	}
	if x := expire(t, s, api.MaxTime); len(x.L) != len(s.L) || len(Alarms(x)) >= len(Alarms(s)) {
		t.Error(len(x.L))
	}
	if got := Cleared(s); len(got) != 20000 {
		t.Error(len(got))
	}
}
