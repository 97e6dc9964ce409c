package lanes

import (
	"cmp"
	"slices"
	"testing"

	"baggage/api"
)

// random is a sequence of numbers that looks random.
type random uint32

// below returns a number from 0 to n-1.
func (r *random) below(n int) int {
	*r = *r*1664525 + 1013904223
	return int(*r>>8) % n
}

// list returns n numbers from 0 to most.
func (r *random) list(n, most int) []int {
	l := make([]int, n)
	for i := range l {
		l[i] = r.below(most + 1)
	}
	return l
}

// lists returns all lists of up to most numbers that are in the range from least to greatest.
func lists(most, least, greatest int) [][]int {
	all := [][]int{{}}
	for from := 0; most > 0; most-- {
		end := len(all)
		for _, l := range all[from:end] {
			for n := least; n <= greatest; n++ {
				all = append(all, append(slices.Clone(l), n))
			}
		}
		from = end
	}
	return all
}

// good is a second reading of the definition, pair by pair.
func good(due, lanes []int) bool {
	for i := range due {
		for j := range i {
			if lanes[i] == lanes[j] && due[i] < due[j] {
				return false
			}
		}
	}
	return true
}

// least returns the least number of lanes of all good assignments that begin with these lanes, of which there are n so far.
func least(due, lanes []int, n int) int {
	if !good(due[:len(lanes)], lanes) {
		return len(due) + 1
	}
	if len(lanes) == len(due) {
		return n
	}
	best := len(due) + 1
	for lane := range n + 1 {
		best = min(best, least(due, append(slices.Clone(lanes), lane), max(n, lane+1)))
	}
	return best
}

// lastIn returns the last one of the bags so far that is in a lane, or -1.
func lastIn(lanes []int, lane int) int {
	for i := len(lanes) - 1; i >= 0; i-- {
		if lanes[i] == lane {
			return i
		}
	}
	return -1
}

// assigned is a second reading of P17.1, sentence by sentence.
func assigned(due []int) []int {
	var lanes []int
	for _, d := range due {
		next := 0
		for lastIn(lanes, next) >= 0 {
			next++
		}
		lane, last := next, -1
		for i := range next {
			if x := due[lastIn(lanes, i)]; x <= d && x > last {
				lane, last = i, x
			}
		}
		lanes = append(lanes, lane)
	}
	return lanes
}

// chained is a second reading of P17.2, from the last bag to the first one.
func chained(lanes []int) []int {
	if len(lanes) == 0 {
		return nil
	}
	lane := slices.Max(lanes)
	chain := []int{slices.Index(lanes, lane)}
	for ; lane > 0; lane-- {
		chain = slices.Insert(chain, 0, lastIn(lanes[:chain[0]], lane-1))
	}
	return chain
}

// prove checks that an assignment is good, and that a chain proves that none has fewer lanes. It uses only the definitions.
func prove(t *testing.T, due []int) {
	t.Helper()
	lanes, e := Assign(due)
	if e != api.OK || len(lanes) != len(due) || !good(due, lanes) {
		t.Fatal(due, lanes, e)
	}
	used := slices.Compact(slices.Sorted(slices.Values(lanes)))
	if !slices.Equal(used, ascending(len(used))) { // the lanes have the numbers from 0 on
		t.Fatal(due, lanes)
	}
	chain := Chain(due)
	if len(chain) != len(used) || Count(due) != len(used) {
		t.Fatal(due, lanes, chain, Count(due))
	}
	for k := 1; k < len(chain); k++ {
		if chain[k] <= chain[k-1] || due[chain[k]] >= due[chain[k-1]] {
			t.Fatal(due, chain)
		}
	}
}

func TestAllShortLists(t *testing.T) { // P17.1, P17.2: against all assignments
	for _, due := range lists(6, 0, 3) {
		expect(t, due, assigned(due), chained(assigned(due)))
		prove(t, due)
		if want := least(due, nil, 0); Count(due) != want {
			t.Fatal(due, Count(due), want)
		}
	}
}

func TestAllOrders(t *testing.T) { // P17.1, P17.2: seven bags without equal times
	var all func(due []int)
	all = func(due []int) {
		if len(due) == 7 {
			expect(t, due, assigned(due), chained(assigned(due)))
			prove(t, due)
			return
		}
		for d := range 7 {
			if !slices.Contains(due, d) {
				all(append(slices.Clone(due), d))
			}
		}
	}
	all(nil)
}

func TestManyLists(t *testing.T) { // P17.1, P17.2, W9
	r := random(1)
	for k := range 600 {
		due := r.list(r.below(api.MaxStored+1), []int{1, 5, 40, 300, api.MaxTime}[k%5])
		if k%3 == 0 { // nearly in order, or nearly in the opposite one
			slices.Sort(due)
			if k%2 == 0 {
				slices.Reverse(due)
			}
			for range r.below(20) {
				if n := len(due); n > 0 {
					i, j := r.below(n), r.below(n)
					due[i], due[j] = due[j], due[i]
				}
			}
		}
		expect(t, due, assigned(due), chained(assigned(due)))
		prove(t, due)
	}
}

func TestAllChecks(t *testing.T) { // P17.3: short lists, with all assignments
	dues, some := lists(4, 0, 2), lists(5, -1, 2)
	for _, due := range dues {
		for _, lanes := range some {
			want := api.OK
			switch {
			case len(lanes) != len(due) || slices.Contains(lanes, -1):
				want = api.ErrRange
			case !good(due, lanes):
				want = api.ErrOrder
			}
			expectCheck(t, due, lanes, want)
		}
	}
}

func TestManyChecks(t *testing.T) { // P17.3: assignments that are spoiled in one place
	r, bad := random(2), 0
	for range 2000 {
		due := r.list(1+r.below(30), 20)
		lanes := assigned(due)
		lanes[r.below(len(lanes))] = r.below(4)
		want := api.OK
		if !good(due, lanes) {
			want = api.ErrOrder
			bad++
		}
		expectCheck(t, due, lanes, want)
	}
	if bad < 500 || bad > 1900 {
		t.Error("one-sided:", bad)
	}
}

// chosen is a second reading of P17.5: the lane of a new bag, or -1 if all lanes are full.
func chosen(x api.Lanes, due int) int {
	var fit, without, rest []int
	last := func(lane int) int { return x.L[lane][len(x.L[lane])-1].Due }
	for lane, l := range x.L {
		switch {
		case len(l) >= x.Depth:
		case len(l) == 0:
			without = append(without, lane)
		case last(lane) <= due:
			fit = append(fit, lane)
		default:
			rest = append(rest, lane)
		}
	}
	slices.SortStableFunc(fit, func(a, b int) int { return cmp.Compare(last(b), last(a)) })
	slices.SortStableFunc(rest, func(a, b int) int { return cmp.Compare(last(a), last(b)) })
	for _, lane := range slices.Concat(fit, without, rest) {
		return lane
	}
	return -1
}

// putOne puts a bag into a store, or expects the error of the second reading.
func putOne(t *testing.T, x api.Lanes, bag, due int) (api.Lanes, bool) {
	t.Helper()
	lane := chosen(x, due)
	if slices.Contains(slices.Concat(bags(x)...), bag) {
		refusePut(t, x, bag, due, api.ErrDuplicate)
		return x, false
	}
	if lane < 0 {
		refusePut(t, x, bag, due, api.ErrFull)
		return x, false
	}
	return fill(t, x, put{bag, due, lane}), true
}

// takeOne takes a bag out of a store bag by bag: those before it go out at the front and in at the end.
func takeOne(t *testing.T, x api.Lanes, bag int) (api.Lanes, bool) {
	t.Helper()
	want := copied(x)
	for lane, l := range want.L {
		if !slices.ContainsFunc(l, func(s api.Stored) bool { return s.Bag == bag }) {
			continue
		}
		var before []int
		for ; l[0].Bag != bag; l = append(slices.Clone(l[1:]), l[0]) {
			before = append(before, l[0].Bag)
		}
		want.L[lane] = l[1:]
		y := take(t, x, bag, before...)
		if !same(y, want) {
			t.Fatalf("%d out of %v: %v, not %v", bag, x, y, want)
		}
		return y, true
	}
	refuseTake(t, x, bag)
	return x, false
}

func TestAllSmallStores(t *testing.T) { // P17.5: lanes of each form, with each new bag
	var forms [][]int // the due times of the bags in a lane
	for _, l := range lists(2, 1, 3) {
		forms = append(forms, l)
	}
	for a := range forms {
		for b := range forms {
			for c := range forms {
				x := api.Lanes{Depth: 2}
				bag := 0
				for _, form := range []int{a, b, c} {
					var l []api.Stored
					for _, due := range forms[form] {
						bag++
						l = append(l, api.Stored{Bag: bag, Due: due})
					}
					x.L = append(x.L, l)
				}
				for due := range 5 {
					putOne(t, x, 40, due)
				}
			}
		}
	}
}

func TestManyStores(t *testing.T) { // P17.4, P17.5, P17.6: stores of this package, over many calls
	r := random(3)
	var puts, refused, taken, missing int
	for k := range 400 {
		x := empty(t, 1+r.below(6), 1+r.below(6))
		if k%20 == 0 {
			x = empty(t, 1+r.below(api.MaxDepth), 1+r.below(api.MaxDepth))
		}
		most := []int{2, 9, 50, api.MaxTime}[k%4]
		for range 150 {
			bag, ok := 1+r.below(api.MaxBags), false
			if r.below(3) > 0 {
				if x, ok = putOne(t, x, bag, r.below(most+1)); ok {
					puts++
				} else {
					refused++
				}
			} else if x, ok = takeOne(t, x, bag); ok {
				taken++
			} else {
				missing++
			}
		}
	}
	if min(puts, refused, taken, missing) < 5000 {
		t.Error("one-sided:", puts, refused, taken, missing)
	}
}

func TestLanesHoldWhatIsPut(t *testing.T) { // P17.5, P17.6: no bag is lost or changed, and no lane is too long
	r := random(4)
	for range 200 {
		x := empty(t, 1+r.below(5), 1+r.below(9))
		inside := map[int]int{}
		for range 200 {
			bag, due := 1+r.below(api.MaxBags), r.below(30)
			if y, _, e := Put(x, api.Stored{Bag: bag, Due: due}); e == api.OK {
				x, inside[bag] = y, due
			}
			bag = 1 + r.below(api.MaxBags)
			if y, _, e := Take(x, bag); e == api.OK {
				x = y
				delete(inside, bag)
			}
			n := 0
			for _, l := range x.L {
				for _, s := range l {
					if due, ok := inside[s.Bag]; !ok || due != s.Due {
						t.Fatal(x, inside)
					}
				}
				n += len(l)
				if len(l) > x.Depth {
					t.Fatal(x)
				}
			}
			if n != len(inside) {
				t.Fatal(x, inside)
			}
		}
	}
}

func TestStoreLikeAssign(t *testing.T) { // the consequences
	r, deep := random(5), 0
	for range 2000 {
		due := r.list(r.below(api.MaxBags+1), []int{1, 6, 30, api.MaxTime}[r.below(4)])
		lanes := assigned(due)
		if Count(due) > api.MaxDepth {
			continue
		}
		x := empty(t, max(1, Count(due)), api.MaxDepth)
		enough := true
		for i, d := range due {
			if len(x.L[lanes[i]]) == x.Depth {
				enough = false
				break
			}
			x = fill(t, x, put{i + 1, d, lanes[i]})
		}
		if !enough {
			continue
		}
		deep++
		order := ascending(len(due))
		slices.SortStableFunc(order, func(a, b int) int { return cmp.Compare(due[a], due[b]) })
		for _, i := range order {
			x = take(t, x, i+1) // no bag before it
		}
		expectBags(t, x, make([][]int, len(x.L))...)
	}
	if deep < 1000 {
		t.Error("seldom:", deep)
	}
}
