package screen

import (
	"math"
	"slices"
	"testing"

	"baggage/api"
)

const (
	pending  = api.CheckPending
	cleared  = api.CheckCleared
	rejected = api.CheckRejected
)

// same reports whether two screenings are equal.
func same(a, b api.Screening) bool {
	return a.Limits == b.Limits && a.Next == b.Next && slices.Equal(a.L, b.L)
}

// open returns a screening without checks.
func open(t *testing.T, limits ...int) api.Screening {
	t.Helper()
	s, e := New([4]int(limits))
	if e != api.OK {
		t.Fatal(limits, e)
	}
	return s
}

// start begins the checks of bags at the same time.
func start(t *testing.T, s api.Screening, now int, bags ...int) api.Screening {
	t.Helper()
	for _, bag := range bags {
		x, e := Start(s, bag, now)
		if e != api.OK {
			t.Fatal(s, bag, now, e)
		}
		s = x
	}
	return s
}

// expire lets checks expire at some times, one after another.
func expire(t *testing.T, s api.Screening, times ...int) api.Screening {
	t.Helper()
	for _, now := range times {
		x, e := Expire(s, now)
		if e != api.OK {
			t.Fatal(s, now, e)
		}
		s = x
	}
	return s
}

// verdict gives a verdict about an image of a bag.
func verdict(t *testing.T, s api.Screening, image int, clear bool, now, want int) api.Screening {
	t.Helper()
	x, bag, e := Verdict(s, image, clear, now)
	if e != api.OK || bag != want {
		t.Fatalf("the verdict %v about %d of %v at %d: %d, %d, not %d", clear, image, s, now, bag, e, want)
	}
	return x
}

// raise raises alarms about images of a bag at the same time.
func raise(t *testing.T, s api.Screening, now, bag int, images ...int) api.Screening {
	t.Helper()
	for _, image := range images {
		s = verdict(t, s, image, false, now, bag)
	}
	return s
}

// expect checks the next image number and the checks of a screening.
func expect(t *testing.T, s api.Screening, next int, checks ...api.Check) {
	t.Helper()
	if s.Next != next || !slices.Equal(s.L, checks) {
		t.Errorf("%v, not %d %v", s, next, checks)
	}
}

// refuse checks that a call returned an error and otherwise zero values.
func refuse(t *testing.T, s api.Screening, bag int, e, want api.Errno) {
	t.Helper()
	if e != want || bag != 0 || !same(s, api.Screening{}) {
		t.Errorf("%v, %d, %d, not the error %d", s, bag, e, want)
	}
}

// refuseStart checks that Start returns an error.
func refuseStart(t *testing.T, s api.Screening, bag, now int, want api.Errno) {
	t.Helper()
	x, e := Start(s, bag, now)
	refuse(t, x, 0, e, want)
}

// refuseExpire checks that Expire returns an error.
func refuseExpire(t *testing.T, s api.Screening, now int, want api.Errno) {
	t.Helper()
	x, e := Expire(s, now)
	refuse(t, x, 0, e, want)
}

// refuseVerdict checks that both verdicts about an image are refused.
func refuseVerdict(t *testing.T, s api.Screening, image, now int, want api.Errno) {
	t.Helper()
	for _, clear := range []bool{true, false} {
		x, bag, e := Verdict(s, image, clear, now)
		refuse(t, x, bag, e, want)
	}
}

// noTimes are not in the range of times.
var noTimes = []int{math.MinInt, -api.MaxTime, -2, -1, api.MaxTime + 1, api.MaxTime + 2, 1 << 32, math.MaxInt}

func TestNew(t *testing.T) { // P15.1
	for _, limits := range [][4]int{{}, {5, 5, 5, 5}, {1, 2, 3, 4}, {api.MaxLimit, 0, 0, 0}, {0, api.MaxLimit, 0, 0}, {0, 0, api.MaxLimit, 0}, {0, 0, 0, api.MaxLimit}, {api.MaxLimit, api.MaxLimit, api.MaxLimit, api.MaxLimit}} {
		if s, e := New(limits); e != api.OK || !same(s, api.Screening{Limits: limits, Next: 1}) {
			t.Error(limits, s, e)
		}
	}
	for level := range 4 {
		for limit := 0; limit <= api.MaxLimit; limit++ {
			limits := [4]int{7, 7, 7, 7}
			limits[level] = limit
			if s, e := New(limits); e != api.OK || !same(s, api.Screening{Limits: limits, Next: 1}) {
				t.Error(limits, s, e)
			}
		}
		for _, limit := range []int{math.MinInt, -api.MaxLimit, -1, api.MaxLimit + 1, api.MaxTime, 1 << 32, math.MaxInt} {
			limits := [4]int{7, 7, 7, 7}
			limits[level] = limit
			s, e := New(limits)
			refuse(t, s, 0, e, api.ErrRange)
		}
	}
}

func TestExample(t *testing.T) { // P15.2, P15.3, P15.4
	s := start(t, open(t, 5, 5, 5, 5), 10, 1)
	if got := Alarms(s); !slices.Equal(got, []api.Alarm{{Image: 1, Bag: 1, Level: 1, Deadline: 15}}) {
		t.Error(got)
	}
	expect(t, verdict(t, s, 1, true, 15, 1), 2, api.Check{Bag: 1, Level: 1, Since: 10, Image: 1, State: cleared})
	expect(t, expire(t, s, 16), 3, api.Check{Bag: 1, Level: 2, Since: 16, Image: 2, State: pending})
}

func TestStart(t *testing.T) { // P15.2
	for _, bag := range []int{1, 2, 39, api.MaxBags} {
		for _, now := range []int{0, 1, 1000, api.MaxTime - 1, api.MaxTime} {
			expect(t, start(t, open(t, 0, 0, 0, 0), now, bag), 2, api.Check{Bag: bag, Level: 1, Since: now, Image: 1, State: pending})
		}
	}
	s := start(t, open(t, 5, 6, 7, 8), 10, 7, 3)
	s = start(t, s, 12, 40, 5)
	expect(t, s, 5,
		api.Check{Bag: 3, Level: 1, Since: 10, Image: 2, State: pending},
		api.Check{Bag: 5, Level: 1, Since: 12, Image: 4, State: pending},
		api.Check{Bag: 7, Level: 1, Since: 10, Image: 1, State: pending},
		api.Check{Bag: 40, Level: 1, Since: 12, Image: 3, State: pending})
	if s.Limits != [4]int{5, 6, 7, 8} {
		t.Error(s)
	}
	late := start(t, start(t, open(t, 0, 0, 0, 0), 10, 7), 99, 3) // Start lets no check expire
	expect(t, late, 3, api.Check{Bag: 3, Level: 1, Since: 99, Image: 2, State: pending}, api.Check{Bag: 7, Level: 1, Since: 10, Image: 1, State: pending})
}

func TestStartAllBags(t *testing.T) { // P15.2
	for step := 1; step <= api.MaxBags; step++ { // the bags in different orders
		s, image := open(t, 5, 6, 7, 8), 1
		var want []api.Check
		for from := 1; from <= step; from++ {
			for bag := from; bag <= api.MaxBags; bag += step {
				s = start(t, s, image/2, bag)
				want = append(want, api.Check{Bag: bag, Level: 1, Since: image / 2, Image: image, State: pending})
				image++
			}
		}
		slices.SortFunc(want, func(a, b api.Check) int { return a.Bag - b.Bag })
		expect(t, s, api.MaxBags+1, want...)
		for bag := 1; bag <= api.MaxBags; bag++ {
			refuseStart(t, s, bag, 30, api.ErrDuplicate)
		}
	}
}

func TestStartErrors(t *testing.T) { // P15.2
	s := start(t, open(t, 5, 5, 5, 5), 10, 3, 4, 5, 6)
	s = verdict(t, s, 2, true, 10, 4)
	s = raise(t, s, 10, 5, 3, 5, 6, 7)
	s = raise(t, s, 10, 6, 4, 8)
	noBags := []int{math.MinInt, -1, 0, api.MaxBags + 1, api.MaxBags + 2, 256 + 3, 1<<32 + 3, math.MaxInt}
	none := s
	none.Next = api.MaxImage + 1
	for _, x := range []api.Screening{open(t, 0, 0, 0, 0), s, none} {
		for _, bag := range noBags {
			refuseStart(t, x, bag, 10, api.ErrRange)
		}
		for _, now := range noTimes {
			for _, bag := range append(noBags, 1, 3, api.MaxBags) {
				refuseStart(t, x, bag, now, api.ErrRange)
			}
		}
	}
	for bag := 3; bag <= 6; bag++ { // pending, cleared, rejected, and pending at another level
		refuseStart(t, s, bag, 10, api.ErrDuplicate)
		refuseStart(t, s, bag, 99, api.ErrDuplicate)
		refuseStart(t, none, bag, 10, api.ErrDuplicate)
	}
	refuseStart(t, none, 1, 10, api.ErrLimit)
	s.Next = api.MaxImage
	s = start(t, s, 10, 1)
	if c, ok := Find(s, 1); !ok || c.Image != api.MaxImage || s.Next != api.MaxImage+1 {
		t.Error(s)
	}
	refuseStart(t, s, 2, 10, api.ErrLimit)
	refuseStart(t, s, 1, 10, api.ErrDuplicate)
}

func TestExpire(t *testing.T) { // P15.3
	s := start(t, open(t, 5, 3, 0, 2), 10, 7)
	first := api.Check{Bag: 7, Level: 1, Since: 10, Image: 1, State: pending}
	for now := 10; now <= 15; now++ {
		expect(t, expire(t, s, now), 2, first)
	}
	expect(t, expire(t, s, 16), 3, api.Check{Bag: 7, Level: 2, Since: 16, Image: 2, State: pending})
	expect(t, expire(t, s, 15, 16, 16, 17, 18, 19), 3, api.Check{Bag: 7, Level: 2, Since: 16, Image: 2, State: pending})
	s = expire(t, s, 17)
	expect(t, s, 3, api.Check{Bag: 7, Level: 2, Since: 17, Image: 2, State: pending})
	expect(t, expire(t, s, 20), 3, api.Check{Bag: 7, Level: 2, Since: 17, Image: 2, State: pending})
	s = expire(t, s, 21)
	expect(t, s, 4, api.Check{Bag: 7, Level: 3, Since: 21, Image: 3, State: pending})
	expect(t, expire(t, s, 21, 21), 4, api.Check{Bag: 7, Level: 3, Since: 21, Image: 3, State: pending})
	s = expire(t, s, 22)
	expect(t, s, 5, api.Check{Bag: 7, Level: 4, Since: 22, Image: 4, State: pending})
	expect(t, expire(t, s, 23, 24), 5, api.Check{Bag: 7, Level: 4, Since: 22, Image: 4, State: pending})
	s = expire(t, s, 25)
	expect(t, s, 5, api.Check{Bag: 7, Level: 4, Since: 22, Image: 4, State: rejected})
	expect(t, expire(t, s, 26, 99, api.MaxTime), 5, api.Check{Bag: 7, Level: 4, Since: 22, Image: 4, State: rejected})
	if s.Limits != [4]int{5, 3, 0, 2} {
		t.Error(s)
	}
}

func TestExpireOnce(t *testing.T) { // P15.3: also where several deadlines would be over
	for _, limits := range [][]int{{0, 0, 0, 0}, {5, 5, 5, 5}, {9, 0, 0, 9}} {
		s := start(t, open(t, limits...), 0, 2)
		for level := 2; level <= 4; level++ {
			s = expire(t, s, 100*level)
			expect(t, s, level+1, api.Check{Bag: 2, Level: level, Since: 100 * level, Image: level, State: pending})
		}
		expect(t, expire(t, s, 500), 5, api.Check{Bag: 2, Level: 4, Since: 400, Image: 4, State: rejected})
	}
}

func TestEachLimit(t *testing.T) { // P15.3: each level has its own one
	for level := 1; level <= 4; level++ {
		for _, limit := range []int{0, 1, 2, 99, api.MaxLimit} {
			limits := []int{500, 600, 700, 800}
			limits[level-1] = limit
			s := raise(t, start(t, open(t, limits...), 50, 9), 50, 9, []int{1, 2, 3}[:level-1]...)
			waits := api.Check{Bag: 9, Level: level, Since: 50, Image: level, State: pending}
			expect(t, expire(t, s, 50, 50+limit), level+1, waits)
			if got := Alarms(s); !slices.Equal(got, []api.Alarm{{Image: level, Bag: 9, Level: level, Deadline: 50 + limit}}) {
				t.Error(got)
			}
			if level == 4 {
				waits.State = rejected
				expect(t, expire(t, s, 51+limit), 5, waits)
				continue
			}
			expect(t, expire(t, s, 51+limit), level+2, api.Check{Bag: 9, Level: level + 1, Since: 51 + limit, Image: level + 1, State: pending})
		}
	}
}

func TestExpireByBag(t *testing.T) { // P15.3: the images are numbered in the order of the bags
	s := start(t, open(t, 5, 5, 5, 5), 1, 30, 20, 10)
	s = start(t, s, 4, 5, 25)
	expect(t, expire(t, s, 7), 9,
		api.Check{Bag: 5, Level: 1, Since: 4, Image: 4, State: pending},
		api.Check{Bag: 10, Level: 2, Since: 7, Image: 6, State: pending},
		api.Check{Bag: 20, Level: 2, Since: 7, Image: 7, State: pending},
		api.Check{Bag: 25, Level: 1, Since: 4, Image: 5, State: pending},
		api.Check{Bag: 30, Level: 2, Since: 7, Image: 8, State: pending})
}

func TestExpireAllStates(t *testing.T) { // P15.3: checks that are not pending stay, and one of level 4 needs no image
	s := start(t, open(t, 5, 5, 5, 5), 1, 1, 2, 3, 4, 5)
	s = verdict(t, s, 1, true, 2, 1)
	s = raise(t, s, 2, 2, 2, 6, 7, 8)
	s = raise(t, s, 2, 3, 3, 9, 10)
	s = raise(t, s, 2, 4, 4)
	s = start(t, s, 6, 6)
	expect(t, expire(t, s, 9), 16,
		api.Check{Bag: 1, Level: 1, Since: 1, Image: 1, State: cleared},
		api.Check{Bag: 2, Level: 4, Since: 2, Image: 8, State: rejected},
		api.Check{Bag: 3, Level: 4, Since: 2, Image: 11, State: rejected},
		api.Check{Bag: 4, Level: 3, Since: 9, Image: 14, State: pending},
		api.Check{Bag: 5, Level: 2, Since: 9, Image: 15, State: pending},
		api.Check{Bag: 6, Level: 1, Since: 6, Image: 13, State: pending})
}

func TestExpireErrors(t *testing.T) { // P15.3
	s := start(t, open(t, 5, 5, 5, 5), 1, 1, 2, 3)
	s = raise(t, s, 1, 3, 3, 4, 5)
	none := s
	none.Next = api.MaxImage + 1
	for _, x := range []api.Screening{open(t, 0, 0, 0, 0), s, none} {
		for _, now := range noTimes {
			refuseExpire(t, x, now, api.ErrRange)
		}
	}
	expect(t, expire(t, none, 6), api.MaxImage+1, s.L...)
	for left := range 4 { // the images that are left, of which two are needed
		x := s
		x.Next = api.MaxImage + 1 - left
		if left < 2 {
			refuseExpire(t, x, 7, api.ErrLimit)
			refuseVerdict(t, x, 1, 7, api.ErrLimit)
			continue
		}
		expect(t, expire(t, x, 7), x.Next+2,
			api.Check{Bag: 1, Level: 2, Since: 7, Image: x.Next, State: pending},
			api.Check{Bag: 2, Level: 2, Since: 7, Image: x.Next + 1, State: pending},
			api.Check{Bag: 3, Level: 4, Since: 1, Image: 6, State: rejected})
	}
	last := start(t, open(t, 5, 5, 5, 5), 1, 3)
	last = raise(t, last, 1, 3, 1, 2, 3)
	last.Next = api.MaxImage + 1
	expect(t, expire(t, last, 7), api.MaxImage+1, api.Check{Bag: 3, Level: 4, Since: 1, Image: 4, State: rejected})
	expect(t, expire(t, open(t, 0, 0, 0, 0), 0, api.MaxTime), 1)
}

func TestClear(t *testing.T) { // P15.4: at each level, until the deadline
	for level := 1; level <= 4; level++ {
		s := raise(t, start(t, open(t, 5, 6, 7, 8), 10, 4), 10, 4, []int{1, 2, 3}[:level-1]...)
		for now := 10; now <= 14+level; now++ {
			x := verdict(t, s, level, true, now, 4)
			expect(t, x, level+1, api.Check{Bag: 4, Level: level, Since: 10, Image: level, State: cleared})
			expect(t, expire(t, x, now, 99, 999), level+1, x.L...) // for good
			refuseVerdict(t, x, level, now, api.ErrMissing)
			refuseVerdict(t, x, level, 99, api.ErrMissing)
		}
		for now := 15 + level; now <= 20+level; now++ {
			refuseVerdict(t, s, level, now, api.ErrMissing)
		}
	}
}

func TestAlarm(t *testing.T) { // P15.4
	s := start(t, open(t, 5, 6, 7, 8), 10, 4, 2)
	other := api.Check{Bag: 2, Level: 1, Since: 10, Image: 2, State: pending}
	s = verdict(t, s, 1, false, 11, 4)
	expect(t, s, 4, other, api.Check{Bag: 4, Level: 2, Since: 11, Image: 3, State: pending})
	s = verdict(t, s, 3, false, 13, 4)
	expect(t, s, 5, other, api.Check{Bag: 4, Level: 3, Since: 13, Image: 4, State: pending})
	s = verdict(t, s, 4, false, 13, 4)
	expect(t, s, 6, other, api.Check{Bag: 4, Level: 4, Since: 13, Image: 5, State: pending})
	s = verdict(t, s, 5, false, 15, 4)
	expect(t, s, 6, other, api.Check{Bag: 4, Level: 4, Since: 13, Image: 5, State: rejected})
	for image := range 7 {
		if image != 2 {
			refuseVerdict(t, s, image, 15, api.ErrMissing)
		}
	}
	expect(t, verdict(t, s, 2, true, 15, 2), 6,
		api.Check{Bag: 2, Level: 1, Since: 10, Image: 2, State: cleared},
		api.Check{Bag: 4, Level: 4, Since: 13, Image: 5, State: rejected})
}

func TestVerdictExpiresFirst(t *testing.T) { // P15.4
	s := start(t, start(t, open(t, 5, 5, 5, 5), 10, 8, 6), 12, 7)
	expect(t, verdict(t, s, 3, true, 16, 7), 6,
		api.Check{Bag: 6, Level: 2, Since: 16, Image: 4, State: pending},
		api.Check{Bag: 7, Level: 1, Since: 12, Image: 3, State: cleared},
		api.Check{Bag: 8, Level: 2, Since: 16, Image: 5, State: pending})
	expect(t, verdict(t, s, 3, false, 16, 7), 7,
		api.Check{Bag: 6, Level: 2, Since: 16, Image: 4, State: pending},
		api.Check{Bag: 7, Level: 2, Since: 16, Image: 6, State: pending},
		api.Check{Bag: 8, Level: 2, Since: 16, Image: 5, State: pending})
	for image := -1; image <= 9; image++ {
		if image != 3 { // 1 and 2 are too late, and nobody has seen 4 and 5
			refuseVerdict(t, s, image, 16, api.ErrMissing)
		}
	}
	later := expire(t, s, 16)
	expect(t, verdict(t, later, 4, true, 16, 6), 6,
		api.Check{Bag: 6, Level: 2, Since: 16, Image: 4, State: cleared},
		api.Check{Bag: 7, Level: 1, Since: 12, Image: 3, State: pending},
		api.Check{Bag: 8, Level: 2, Since: 16, Image: 5, State: pending})
}

func TestVerdictAboutRejected(t *testing.T) { // P15.4: the bag is rejected in the same call
	s := raise(t, start(t, open(t, 5, 5, 5, 5), 10, 8), 10, 8, 1, 2, 3)
	verdict(t, s, 4, true, 15, 8)
	refuseVerdict(t, s, 4, 16, api.ErrMissing)
}

func TestVerdictErrors(t *testing.T) { // P15.4
	s := start(t, open(t, 5, 5, 5, 5), 10, 1, 2)
	s = raise(t, s, 10, 2, 2, 3, 4)
	none, one := s, s
	none.Next, one.Next = api.MaxImage+1, api.MaxImage
	for _, x := range []api.Screening{open(t, 0, 0, 0, 0), s, none} {
		for _, now := range noTimes {
			for _, image := range []int{-1, 0, 1, 5, 6, math.MaxInt} {
				refuseVerdict(t, x, image, now, api.ErrRange)
			}
		}
	}
	for _, image := range []int{math.MinInt, -1, 0, 2, 3, 4, 6, 7, 256 + 1, api.MaxImage, api.MaxImage + 1, 1<<32 + 1, math.MaxInt} {
		refuseVerdict(t, s, image, 10, api.ErrMissing)
		refuseVerdict(t, s, image, 15, api.ErrMissing)
		refuseVerdict(t, none, image, 10, api.ErrMissing)
		refuseVerdict(t, none, image, 16, api.ErrLimit) // of Expire
	}
	refuseVerdict(t, none, 5, 16, api.ErrLimit)
	refuseVerdict(t, one, 1, 16, api.ErrMissing)
	refuseVerdict(t, open(t, 5, 5, 5, 5), 1, 10, api.ErrMissing)
	refuseVerdict(t, open(t, 5, 5, 5, 5), 0, 10, api.ErrMissing)
	x, bag, e := Verdict(none, 1, false, 10)
	refuse(t, x, bag, e, api.ErrLimit)
	first, second := s.L[0], s.L[1]
	first.State = cleared
	expect(t, verdict(t, none, 1, true, 15, 1), api.MaxImage+1, first, second) // which needs no image
	first, second.State = s.L[0], rejected
	expect(t, verdict(t, none, 5, false, 15, 2), api.MaxImage+1, first, second) // nor does this
	first = api.Check{Bag: 1, Level: 2, Since: 15, Image: api.MaxImage, State: pending}
	x = verdict(t, one, 1, false, 15, 1)
	expect(t, x, api.MaxImage+1, first, s.L[1])
	x, bag, e = Verdict(x, api.MaxImage, false, 15)
	refuse(t, x, bag, e, api.ErrLimit)
}

func TestLastImageIsSeen(t *testing.T) { // P15.4: one less than the next number is an image like others
	for n := 1; n <= api.MaxBags; n++ {
		s := open(t, 5, 5, 5, 5)
		for bag := 1; bag <= n; bag++ {
			s = start(t, s, 3, bag)
		}
		refuseVerdict(t, s, n+1, 3, api.ErrMissing)
		for image := 1; image <= n; image++ {
			verdict(t, s, image, true, 3, image)
			verdict(t, s, image, false, 8, image)
		}
	}
}

func TestUnseenImages(t *testing.T) { // P15.4: images that this call makes, at each level
	s := start(t, open(t, 0, 0, 0, 0), 0, 1)
	for level := 2; level <= 4; level++ {
		now := 10 * level
		for image := range level + 2 {
			refuseVerdict(t, s, image, now, api.ErrMissing)
		}
		s = expire(t, s, now)
		verdict(t, s, level, true, now, 1)
	}
}

func TestFind(t *testing.T) { // P15.5
	s := open(t, 5, 5, 5, 5)
	for bag := -2; bag <= api.MaxBags+2; bag++ {
		if c, ok := Find(s, bag); ok || c != (api.Check{}) {
			t.Error(bag, c)
		}
	}
	s = start(t, s, 10, 40, 2, 4, 38, 20, 22)
	s = verdict(t, s, 2, true, 11, 2)
	s = raise(t, s, 12, 38, 4, 7, 8, 9)
	s = raise(t, s, 13, 20, 5)
	want := []api.Check{
		{Bag: 2, Level: 1, Since: 10, Image: 2, State: cleared},
		{Bag: 4, Level: 1, Since: 10, Image: 3, State: pending},
		{Bag: 20, Level: 2, Since: 13, Image: 10, State: pending},
		{Bag: 22, Level: 1, Since: 10, Image: 6, State: pending},
		{Bag: 38, Level: 4, Since: 12, Image: 9, State: rejected},
		{Bag: 40, Level: 1, Since: 10, Image: 1, State: pending},
	}
	for _, c := range want {
		if got, ok := Find(s, c.Bag); !ok || got != c {
			t.Error(c, got, ok)
		}
	}
	for _, bag := range []int{math.MinInt, -1, 0, 1, 3, 5, 19, 21, 23, 37, 39, 41, 256 + 2, 1<<32 + 2, math.MaxInt} {
		if c, ok := Find(s, bag); ok || c != (api.Check{}) {
			t.Error(bag, c)
		}
	}
}

func TestCleared(t *testing.T) { // P15.5
	s := start(t, open(t, 5, 5, 5, 5), 10, 6, 5, 4, 3, 2, 1)
	if got := Cleared(s); len(got) != 0 {
		t.Error(got)
	}
	s = raise(t, s, 10, 4, 3, 7, 8, 9)         // rejected
	s = raise(t, s, 10, 3, 4, 10, 11)          // pending at level 4
	for i, image := range []int{1, 12, 2, 6} { // in another order than that of the bags
		s = verdict(t, s, image, true, 10, []int{6, 3, 5, 1}[i])
		want := [][]int{{6}, {3, 6}, {3, 5, 6}, {1, 3, 5, 6}}[i]
		if got := Cleared(s); !slices.Equal(got, want) {
			t.Error(got, want)
		}
	}
	if got := Cleared(expire(t, s, 99)); !slices.Equal(got, []int{1, 3, 5, 6}) {
		t.Error(got)
	}
	if got := Cleared(api.Screening{}); len(got) != 0 {
		t.Error(got)
	}
}

func TestAlarms(t *testing.T) { // P15.5
	s := open(t, 9, 5, 3, 1)
	if got := Alarms(s); len(got) != 0 {
		t.Error(got)
	}
	s = start(t, s, 10, 7, 3, 9, 1, 5)
	s = start(t, s, 8, 2)
	want := []api.Alarm{ // by deadlines, then by images, not by bags
		{Image: 6, Bag: 2, Level: 1, Deadline: 17},
		{Image: 1, Bag: 7, Level: 1, Deadline: 19},
		{Image: 2, Bag: 3, Level: 1, Deadline: 19},
		{Image: 3, Bag: 9, Level: 1, Deadline: 19},
		{Image: 4, Bag: 1, Level: 1, Deadline: 19},
		{Image: 5, Bag: 5, Level: 1, Deadline: 19},
	}
	if got := Alarms(s); !slices.Equal(got, want) {
		t.Error(got)
	}
	s = raise(t, s, 12, 9, 3)
	s = raise(t, s, 14, 3, 2)
	s = raise(t, s, 16, 1, 4, 9)
	s = raise(t, s, 16, 5, 5, 11, 12)
	s = verdict(t, s, 1, true, 16, 7)
	want = []api.Alarm{
		{Image: 6, Bag: 2, Level: 1, Deadline: 17},
		{Image: 7, Bag: 9, Level: 2, Deadline: 17},
		{Image: 13, Bag: 5, Level: 4, Deadline: 17},
		{Image: 8, Bag: 3, Level: 2, Deadline: 19},
		{Image: 10, Bag: 1, Level: 3, Deadline: 19},
	}
	if got := Alarms(s); !slices.Equal(got, want) {
		t.Error(got)
	}
	s = raise(t, s, 17, 5, 13) // rejected, and no alarm any more
	if got := Alarms(s); !slices.Equal(got, slices.Delete(want, 2, 3)) {
		t.Error(got)
	}
	late := start(t, open(t, api.MaxLimit, 0, 0, 0), api.MaxTime, 1)
	if got := Alarms(late); !slices.Equal(got, []api.Alarm{{Image: 1, Bag: 1, Level: 1, Deadline: api.MaxTime + api.MaxLimit}}) {
		t.Error(got)
	}
}

func TestAlarmsOfAllBags(t *testing.T) { // P15.5: many equal deadlines
	s, want := open(t, 100, 100, 100, 100), []api.Alarm(nil)
	for k := range api.MaxBags {
		bag := 1 + k*17%api.MaxBags
		s = start(t, s, k/20, bag)
		want = append(want, api.Alarm{Image: k + 1, Bag: bag, Level: 1, Deadline: 100 + k/20})
	}
	if got := Alarms(s); !slices.Equal(got, want) {
		t.Error(got)
	}
}
