package custody

import (
	"math"
	"slices"
	"testing"

	"baggage/api"
)

// Numbers that are no bags, and numbers that are no images. Some of them are numbers of bags and images in fewer bits.
var (
	noBags   = []int{math.MinInt, -api.MaxBags, -1, 0, api.MaxBags + 1, api.MaxBags + 2, 256 + 3, 1<<32 + 3, math.MaxInt}
	noImages = []int{math.MinInt, -api.MaxImage, -1, 0, api.MaxImage + 1, api.MaxImage + 2, 1<<32 + 3, math.MaxInt}
)

// sealed returns the custody in which some bags have seals with these images, in this order.
func sealed(t *testing.T, seals ...api.Seal) api.Custody {
	t.Helper()
	var c api.Custody
	for _, s := range seals {
		c = allow(t, c, s.Bag, s.Image)
	}
	return c
}

// allow returns the custody with another seal.
func allow(t *testing.T, c api.Custody, bag, image int) api.Custody {
	t.Helper()
	x, e := Clear(c, bag, image)
	if e != api.OK {
		t.Fatal(c, bag, image, e)
	}
	return x
}

// revoke returns the custody without the seals of some bags.
func revoke(t *testing.T, c api.Custody, bags ...int) api.Custody {
	t.Helper()
	for _, bag := range bags {
		x, e := Revoke(c, bag)
		if e != api.OK {
			t.Fatal(c, bag, e)
		}
		c = x
	}
	return c
}

// expect checks the seals of a custody, and what Cleared says of it.
func expect(t *testing.T, c api.Custody, seals ...api.Seal) {
	t.Helper()
	var bags []int
	for _, s := range seals {
		bags = append(bags, s.Bag)
	}
	if got := Cleared(c); !slices.Equal(c.L, seals) || !slices.Equal(got, bags) {
		t.Fatalf("%v with the bags %v, not %v", c.L, got, seals)
	}
}

// refuse checks that a call returned an error and otherwise the zero value.
func refuse(t *testing.T, c api.Custody, e, want api.Errno) {
	t.Helper()
	if e != want || len(c.L) > 0 {
		t.Errorf("%v, %d, not the error %d", c, e, want)
	}
}

func refuseClear(t *testing.T, c api.Custody, bag, image int, want api.Errno) {
	t.Helper()
	x, e := Clear(c, bag, image)
	refuse(t, x, e, want)
}

func refuseRevoke(t *testing.T, c api.Custody, bag int) {
	t.Helper()
	x, e := Revoke(c, bag)
	refuse(t, x, e, api.ErrMissing)
}

func TestClear(t *testing.T) { // P16.1
	for bag := 1; bag <= api.MaxBags; bag++ {
		for _, image := range []int{1, 2, bag, 41, 1000, api.MaxImage - 1, api.MaxImage} {
			expect(t, sealed(t, api.Seal{Bag: bag, Image: image}), api.Seal{Bag: bag, Image: image})
		}
	}
	c := sealed(t, api.Seal{Bag: 7, Image: 9}, api.Seal{Bag: 3, Image: 12}, api.Seal{Bag: 40, Image: 5}, api.Seal{Bag: 8, Image: 1})
	expect(t, c, api.Seal{Bag: 3, Image: 12}, api.Seal{Bag: 7, Image: 9}, api.Seal{Bag: 8, Image: 1}, api.Seal{Bag: 40, Image: 5})
	equal := sealed(t, api.Seal{Bag: 2, Image: 6}, api.Seal{Bag: 1, Image: 6}) // bags may have the same image here
	expect(t, equal, api.Seal{Bag: 1, Image: 6}, api.Seal{Bag: 2, Image: 6})
}

func TestClearAllBags(t *testing.T) { // P16.1
	for step := 1; step <= api.MaxBags; step++ { // the bags in different orders
		var c api.Custody
		var want []api.Seal
		for from := 1; from <= step; from++ {
			for bag := from; bag <= api.MaxBags; bag += step {
				s := api.Seal{Bag: bag, Image: 1 + bag*step%50}
				c = allow(t, c, s.Bag, s.Image)
				want = append(want, s)
				slices.SortFunc(want, func(a, b api.Seal) int { return a.Bag - b.Bag })
				expect(t, c, want...)
			}
		}
		for bag := 1; bag <= api.MaxBags; bag++ {
			refuseClear(t, c, bag, 1, api.ErrDuplicate)
		}
		for bag := step; len(want) > 0; bag = bag%api.MaxBags + 1 {
			c = revoke(t, c, bag)
			want = slices.DeleteFunc(want, func(s api.Seal) bool { return s.Bag == bag })
			expect(t, c, want...)
		}
	}
}

func TestClearErrors(t *testing.T) { // P16.1
	some := sealed(t, api.Seal{Bag: 3, Image: 3}, api.Seal{Bag: 1, Image: 7}, api.Seal{Bag: api.MaxBags, Image: api.MaxImage})
	for _, c := range []api.Custody{{}, some} {
		for _, bag := range noBags {
			for _, image := range append([]int{1, 3, 7, api.MaxImage}, noImages...) {
				refuseClear(t, c, bag, image, api.ErrRange)
			}
		}
		for _, image := range noImages {
			for bag := 1; bag <= api.MaxBags; bag++ { // also of the bags that have a seal
				refuseClear(t, c, bag, image, api.ErrRange)
			}
		}
	}
	for _, bag := range []int{1, 3, api.MaxBags} {
		for _, image := range []int{1, 3, 7, 8, api.MaxImage} { // the image of the seal, or another one
			refuseClear(t, some, bag, image, api.ErrDuplicate)
		}
	}
	expect(t, some, api.Seal{Bag: 1, Image: 7}, api.Seal{Bag: 3, Image: 3}, api.Seal{Bag: api.MaxBags, Image: api.MaxImage})
}

func TestRevoke(t *testing.T) { // P16.1
	seals := []api.Seal{{Bag: 2, Image: 5}, {Bag: 3, Image: 4}, {Bag: 9, Image: 1}, {Bag: 40, Image: 2}}
	c := sealed(t, seals...)
	for i, s := range seals {
		x := revoke(t, c, s.Bag)
		expect(t, x, slices.Delete(slices.Clone(seals), i, i+1)...)
		refuseRevoke(t, x, s.Bag)
		again := slices.Clone(seals)
		again[i].Image = 77
		expect(t, allow(t, x, s.Bag, 77), again...)
	}
	expect(t, c, seals...)
	expect(t, revoke(t, c, 9, 2, 40), seals[1])
	expect(t, revoke(t, c, 9, 2, 40, 3))
	expect(t, revoke(t, sealed(t, api.Seal{Bag: 5, Image: 5}), 5))
}

func TestRevokeErrors(t *testing.T) { // P16.1
	var seals []api.Seal
	for bag := 2; bag < api.MaxBags; bag += 2 {
		seals = append(seals, api.Seal{Bag: bag, Image: 1})
	}
	c := sealed(t, seals...)
	for _, bag := range noBags {
		refuseRevoke(t, c, bag)
		refuseRevoke(t, api.Custody{}, bag)
	}
	for bag := 1; bag <= api.MaxBags; bag += 2 { // before, between and behind the others
		refuseRevoke(t, c, bag)
		refuseRevoke(t, api.Custody{}, bag)
	}
	refuseRevoke(t, c, api.MaxBags)
	expect(t, c, seals...)
}

func TestZeroCustody(t *testing.T) { // P16.1
	expect(t, api.Custody{})
	refuseRevoke(t, api.Custody{}, 1)
	expect(t, sealed(t, api.Seal{Bag: 1, Image: 1}), api.Seal{Bag: 1, Image: 1})
}

// vote is what a table of tests has: votes, and the bag for which the gate opens (0: none).
type vote struct {
	v   api.Votes
	bag int
}

func (x vote) check(t *testing.T) {
	t.Helper()
	if bag, ok := Open(x.v); bag != x.bag || ok != (x.bag != 0) {
		t.Fatalf("%v: %d, %v, not %d", x.v, bag, ok, x.bag)
	}
}

func TestOpenExamples(t *testing.T) { // P16.2
	for _, x := range []vote{
		{api.Votes{Tracker: 3, Scanner: 3, Screen: []int{3}, Ledger: []int{3}}, 3},
		{api.Votes{Tracker: 3, Scanner: 3, Screen: []int{1, 3, 4}, Ledger: []int{2, 3, 5}}, 3},
		{api.Votes{Tracker: 3, Scanner: 4, Screen: []int{3}, Ledger: []int{3}}, 0},
		{api.Votes{Tracker: 3, Scanner: 4, Screen: []int{3, 4}, Ledger: []int{3, 4}}, 0},
		{api.Votes{Tracker: 4, Scanner: 3, Screen: []int{3, 4}, Ledger: []int{3, 4}}, 0},
		{api.Votes{Tracker: 3, Scanner: 3, Screen: []int{3}, Ledger: []int{4}}, 0},
		{api.Votes{Tracker: 3, Scanner: 3, Screen: []int{4}, Ledger: []int{3}}, 0},
		{api.Votes{Tracker: 3, Scanner: 3, Screen: []int{3}}, 0},
		{api.Votes{Tracker: 3, Scanner: 3, Ledger: []int{3}}, 0},
		{api.Votes{Tracker: 3, Screen: []int{3, 0}, Ledger: []int{3, 0}}, 0},
		{api.Votes{Scanner: 3, Screen: []int{3, 0}, Ledger: []int{3, 0}}, 0},
		{api.Votes{}, 0},
		{api.Votes{Tracker: 3, Scanner: 3, Screen: []int{9, 3, 3, 1, 9}, Ledger: []int{40, 3, 2, 3}}, 3}, // any order, and several times
		{api.Votes{Tracker: 3, Scanner: 3, Screen: []int{math.MaxInt, -1, 3}, Ledger: []int{3, math.MinInt, 0, 41}}, 3},
	} {
		x.check(t)
	}
}

func TestOpenBags(t *testing.T) { // P16.2: every number, and the ends of the range
	for bag := 1; bag <= api.MaxBags; bag++ {
		vote{api.Votes{Tracker: bag, Scanner: bag, Screen: []int{bag}, Ledger: []int{bag}}, bag}.check(t)
		for _, other := range append(noBags, bag-1, bag+1, bag+256, bag+1<<32, -bag) {
			vote{api.Votes{Tracker: bag, Scanner: other, Screen: []int{bag, other}, Ledger: []int{bag, other}}, 0}.check(t)
			vote{api.Votes{Tracker: other, Scanner: bag, Screen: []int{bag, other}, Ledger: []int{bag, other}}, 0}.check(t)
			vote{api.Votes{Tracker: bag, Scanner: bag, Screen: []int{bag}, Ledger: []int{other}}, 0}.check(t)
			vote{api.Votes{Tracker: bag, Scanner: bag, Screen: []int{other}, Ledger: []int{bag}}, 0}.check(t)
			vote{api.Votes{Tracker: bag, Scanner: bag, Screen: []int{other, bag}, Ledger: []int{other, bag}}, bag}.check(t)
		}
	}
	for _, bag := range noBags {
		vote{api.Votes{Tracker: bag, Scanner: bag, Screen: []int{bag}, Ledger: []int{bag}}, 0}.check(t)
		vote{api.Votes{Tracker: bag, Scanner: bag, Screen: []int{bag, 1, 2, 3}, Ledger: []int{3, 2, 1, bag}}, 0}.check(t)
	}
}

// lists returns all lists with up to most of these numbers.
func lists(most int, numbers ...int) [][]int {
	all := [][]int{{}}
	for from := 0; most > 0; most-- {
		end := len(all)
		for _, l := range all[from:end] {
			for _, n := range numbers {
				all = append(all, append(slices.Clone(l), n))
			}
		}
		from = end
	}
	return all
}

// has is another way to look into a list.
func has(l []int, n int) bool {
	found := false
	for _, m := range l {
		found = found || m == n
	}
	return found
}

func TestOpenAllVotes(t *testing.T) { // P16.2
	numbers, opened := []int{-1, 0, 1, 2, api.MaxBags, api.MaxBags + 1}, 0
	records := lists(2, numbers...)
	for _, tracker := range numbers {
		for _, scanner := range numbers {
			for _, screen := range records {
				for _, ledger := range records {
					x := vote{v: api.Votes{Tracker: tracker, Scanner: scanner, Screen: screen, Ledger: ledger}}
					if tracker == scanner && tracker >= 1 && tracker <= 40 && has(screen, tracker) && has(ledger, tracker) {
						x.bag = tracker
						opened++
					}
					x.check(t)
				}
			}
		}
	}
	if opened != 3*12*12 { // for each bag: it alone, and before or behind each number, or twice
		t.Error(opened)
	}
}

// spoiled returns votes of which three are right, and the fourth one is each of some numbers or lists.
func spoiled(bag int, screen, ledger []int, numbers []int, records [][]int) []api.Votes {
	right := api.Votes{Tracker: bag, Scanner: bag, Screen: screen, Ledger: ledger}
	var all []api.Votes
	for _, n := range numbers {
		tracker, scanner := right, right
		tracker.Tracker, scanner.Scanner = n, n
		all = append(all, tracker, scanner)
	}
	for _, l := range records {
		first, second := right, right
		first.Screen, second.Ledger = l, l
		all = append(all, first, second)
	}
	return all
}

func TestOneVoteIsNotEnough(t *testing.T) { // P16.4
	numbers := append([]int{-2, -1, 0, 1, 2, 3, 4, 5, api.MaxBags, api.MaxBags + 1}, noBags...)
	records, opened := lists(3, -1, 0, 1, 2, 3, 4, api.MaxBags), 0
	for _, bag := range []int{0, 1, 2, 3, api.MaxBags} {
		for _, cleared := range [][]int{{}, {1}, {2}, {3}, {1, 2}, {1, 3}, {2, 3}, {1, 2, 3}, {api.MaxBags}, {1, api.MaxBags}, {2, 3, api.MaxBags}} {
			turned := slices.Clone(cleared) // the same numbers in another order, and several times
			slices.Reverse(turned)
			turned = append(turned, cleared...)
			for _, v := range slices.Concat(spoiled(bag, cleared, turned, numbers, records), spoiled(bag, turned, cleared, numbers, records)) {
				if got, ok := Open(v); ok && (got != bag || !slices.Contains(cleared, bag)) || !ok && got != 0 {
					t.Fatal(bag, cleared, v, got, ok)
				} else if ok {
					opened++
				}
			}
		}
	}
	if opened < 1000 {
		t.Error("seldom:", opened)
	}
}

func TestOneVoteIsEnoughToHold(t *testing.T) { // P16.2, P16.4: the gate opens if the fourth is right too
	for bag := 1; bag <= api.MaxBags; bag++ {
		everything := make([]int, api.MaxBags)
		for i := range everything {
			everything[i] = i + 1
		}
		others := slices.Delete(slices.Clone(everything), bag-1, bag)
		vote{api.Votes{Tracker: bag, Scanner: bag, Screen: everything, Ledger: everything}, bag}.check(t)
		vote{api.Votes{Tracker: bag, Scanner: bag, Screen: others, Ledger: everything}, 0}.check(t)
		vote{api.Votes{Tracker: bag, Scanner: bag, Screen: everything, Ledger: others}, 0}.check(t)
		vote{api.Votes{Tracker: bag%api.MaxBags + 1, Scanner: bag, Screen: everything, Ledger: everything}, 0}.check(t)
		vote{api.Votes{Tracker: bag, Scanner: bag%api.MaxBags + 1, Screen: everything, Ledger: everything}, 0}.check(t)
		for _, v := range spoiled(0, everything, everything, everything, [][]int{everything}) { // no bag is there
			vote{v, 0}.check(t)
		}
	}
}
