package screen

import (
	"math"
	"slices"
	"testing"

	"baggage/api"
)

// random is a sequence of numbers that looks random.
type random uint32

// below returns a number from 0 to n-1.
func (r *random) below(n int) int {
	*r = *r*1664525 + 1013904223
	return int(*r>>8) % n
}

// look is an image of an album: whose it is, at which level, since when it waits, and the state of its bag by it, or 0 if there was another image later.
type look struct{ bag, level, since, state int }

// album is a second reading of screenings: it keeps all images, and the check of a bag is its newest one.
type album struct {
	limits [4]int
	first  int // the number of the first image
	looks  []look
}

func (a album) next() int { return a.first + len(a.looks) }

// newest returns the newest image of a bag, or nil.
func (a album) newest(bag int) *look {
	for i := len(a.looks) - 1; i >= 0; i-- {
		if a.looks[i].bag == bag {
			return &a.looks[i]
		}
	}
	return nil
}

// add returns the album with another image.
func (a album) add(bag, level, now int) (album, api.Errno) {
	if a.next() > api.MaxImage {
		return a, api.ErrLimit
	}
	a.looks = append(slices.Clone(a.looks), look{bag, level, now, pending})
	return a, api.OK
}

// fails returns the album after the check of a bag failed.
func (a album) fails(bag, now int) (album, api.Errno) {
	a.looks = slices.Clone(a.looks)
	x := a.newest(bag)
	if x.level == 4 {
		x.state = rejected
		return a, api.OK
	}
	x.state = 0
	return a.add(bag, x.level+1, now)
}

func (a album) start(bag, now int) (album, api.Errno) {
	if bag < 1 || bag > 40 || now < 0 || now > 1<<20 {
		return a, api.ErrRange
	}
	if a.newest(bag) != nil {
		return a, api.ErrDuplicate
	}
	return a.add(bag, 1, now)
}

func (a album) expire(now int) (album, api.Errno) {
	if now < 0 || now > 1<<20 {
		return a, api.ErrRange
	}
	for bag := 1; bag <= 40; bag++ {
		x := a.newest(bag)
		if x == nil || x.state != pending || now-x.since <= a.limits[x.level-1] {
			continue
		}
		next, e := a.fails(bag, now)
		if e != api.OK {
			return a, e
		}
		a = next
	}
	return a, api.OK
}

func (a album) verdict(image int, clear bool, now int) (album, int, api.Errno) {
	next, e := a.expire(now)
	if e != api.OK {
		return a, 0, e
	}
	if image < a.first || image >= a.next() { // of the album before
		return a, 0, api.ErrMissing
	}
	x := &next.looks[image-a.first]
	if x.state != pending {
		return a, 0, api.ErrMissing
	}
	if clear {
		next.looks = slices.Clone(next.looks)
		next.looks[image-a.first].state = cleared
		return next, x.bag, api.OK
	}
	next, e = next.fails(x.bag, now)
	if e != api.OK {
		return a, 0, e
	}
	return next, x.bag, api.OK
}

// screening returns what the package should make of it.
func (a album) screening() api.Screening {
	s := api.Screening{Limits: a.limits, Next: a.next()}
	for bag := 1; bag <= 40; bag++ {
		for i, x := range a.looks {
			if x.bag == bag && x.state != 0 {
				s.L = append(s.L, api.Check{Bag: bag, Level: x.level, Since: x.since, Image: a.first + i, State: x.state})
			}
		}
	}
	return s
}

// alarms returns the pending checks, in the order of their images and then, without changing it otherwise, of their deadlines.
func (a album) alarms() []api.Alarm {
	var alarms []api.Alarm
	for i, x := range a.looks {
		if x.state == pending {
			alarms = append(alarms, api.Alarm{Image: a.first + i, Bag: x.bag, Level: x.level, Deadline: x.since + a.limits[x.level-1]})
		}
	}
	slices.SortStableFunc(alarms, func(x, y api.Alarm) int { return x.Deadline - y.Deadline })
	return alarms
}

// agree checks that a screening is that of an album, in every respect.
func (a album) agree(t *testing.T, s api.Screening) {
	t.Helper()
	want := a.screening()
	if !same(s, want) {
		t.Fatal(s, want)
	}
	var bags []int
	for bag := 0; bag <= 41; bag++ {
		i := slices.IndexFunc(want.L, func(c api.Check) bool { return c.Bag == bag })
		c, ok := Find(s, bag)
		if ok != (i >= 0) || ok && c != want.L[i] || !ok && c != (api.Check{}) {
			t.Fatal(s, bag, c, ok)
		}
		if ok && c.State == cleared {
			bags = append(bags, bag)
		}
	}
	if got := Cleared(s); !slices.Equal(got, bags) {
		t.Fatal(s, got, bags)
	}
	if got := Alarms(s); !slices.Equal(got, a.alarms()) {
		t.Fatal(s, got, a.alarms())
	}
}

// pair is a screening and what it should be.
type pair struct {
	s api.Screening
	a album
}

// begin returns a screening without checks whose next image number is first.
func begin(t *testing.T, limits [4]int, first int) pair {
	t.Helper()
	s := open(t, limits[:]...)
	s.Next = first
	return pair{s, album{limits: limits, first: first}}
}

// become returns the pair after a call, and whether there was no error.
func (p pair) become(t *testing.T, s api.Screening, bag int, e api.Errno, a album, wantBag int, wantE api.Errno) (pair, bool) {
	t.Helper()
	if e != wantE || bag != wantBag {
		t.Fatal(p.s, bag, e, wantBag, wantE)
	}
	if e != api.OK {
		if !same(s, api.Screening{}) {
			t.Fatal(p.s, s, e)
		}
		return p, false
	}
	a.agree(t, s)
	return pair{s, a}, true
}

func (p pair) start(t *testing.T, bag, now int) (pair, bool) {
	t.Helper()
	s, e := Start(p.s, bag, now)
	a, wantE := p.a.start(bag, now)
	return p.become(t, s, 0, e, a, 0, wantE)
}

func (p pair) expire(t *testing.T, now int) (pair, bool) {
	t.Helper()
	s, e := Expire(p.s, now)
	a, wantE := p.a.expire(now)
	return p.become(t, s, 0, e, a, 0, wantE)
}

func (p pair) verdict(t *testing.T, image int, clear bool, now int) (pair, bool) {
	t.Helper()
	s, bag, e := Verdict(p.s, image, clear, now)
	a, wantBag, wantE := p.a.verdict(image, clear, now)
	return p.become(t, s, bag, e, a, wantBag, wantE)
}

// all tries all sequences of so many calls with two bags, at the same time or later ones, and returns their number.
func (p pair) all(t *testing.T, now, steps int) int {
	t.Helper()
	if steps == 0 {
		return 1
	}
	var next []pair
	keep := func(q pair, ok bool) {
		if ok {
			next = append(next, q)
		}
	}
	for bag := range 4 {
		keep(p.start(t, bag, now))
	}
	keep(p.expire(t, now))
	for k := -1; k <= len(p.a.looks)+2; k++ {
		keep(p.verdict(t, p.a.first+k, true, now))
		keep(p.verdict(t, p.a.first+k, false, now))
	}
	count := p.all(t, now+1, steps-1) // nothing happens
	for _, q := range next {
		count += q.all(t, now, steps-1)
	}
	return count
}

func TestAllShortStories(t *testing.T) { // P15.1 to P15.5
	count := 0
	for _, limits := range [][4]int{{}, {1, 0, 2, 0}, {0, 1, 0, 1}} {
		for _, first := range []int{1, api.MaxImage - 1, api.MaxImage + 1} {
			count += begin(t, limits, first).all(t, 0, 6)
		}
	}
	if count < 10000 {
		t.Error("few:", count)
	}
}

// image returns the number of an image, mostly of one that waits for a verdict.
func (r *random) image(a album) int {
	odd := []int{math.MinInt, -1, 0, a.first - 1, a.next(), a.next() + 1, a.next() + 2, api.MaxImage + 1, 1<<32 + a.first, math.MaxInt}
	alarms := a.alarms()
	switch k := r.below(20); {
	case k == 0:
		return odd[r.below(len(odd))]
	case k == 1 && len(a.looks) > 0:
		return a.first + r.below(len(a.looks))
	case len(alarms) > 0:
		return alarms[r.below(len(alarms))].Image
	}
	return a.next() - 1
}

// step makes one call with a pair. It returns the pair after it and whether there was no error.
func (r *random) step(t *testing.T, p pair, now int) (pair, bool) {
	t.Helper()
	if r.below(40) == 0 {
		now = noTimes[r.below(len(noTimes))]
	}
	switch k := r.below(10); {
	case k < 3:
		return p.start(t, r.below(api.MaxBags+2), now)
	case k < 5:
		return p.expire(t, now)
	}
	return p.verdict(t, r.image(p.a), r.below(4) == 0, now)
}

func TestManyStories(t *testing.T) { // P15.1 to P15.5
	r, errors := random(1), 0
	for k := range 400 {
		var limits [4]int
		for i := range limits {
			limits[i] = r.below(1 + k%30)
		}
		first := 1
		if k%4 == 0 {
			first = api.MaxImage + 1 - r.below(90)
		}
		p, now := begin(t, limits, first), r.below(20)
		if k%5 == 0 {
			now = api.MaxTime - r.below(200)
		}
		for range 200 {
			now = min(now+r.below(3)*r.below(1+k%4), api.MaxTime)
			q, ok := r.step(t, p, now)
			if !ok {
				errors++
			}
			p = q
		}
		states := map[int]bool{}
		for _, c := range p.s.L {
			states[c.State] = true
		}
		if k%4 != 0 && (len(p.s.L) < 20 || len(states) < 2) {
			t.Error("little happened:", p.s)
		}
	}
	if errors < 1000 || errors > 50000 {
		t.Error("errors:", errors)
	}
}

func TestResolvedInTime(t *testing.T) { // the consequence: Expire at every time, and no verdict or any alarms
	r := random(2)
	for k := range 300 {
		limits := [4]int{r.below(9), r.below(9), r.below(9), r.below(9)}
		end := 10 + 4 + limits[0] + limits[1] + limits[2] + limits[3]
		s := start(t, open(t, limits[:]...), 10, 1, 2)
		for now := 10; now <= end; now++ {
			s = expire(t, s, now)
			if c, _ := Find(s, 1); now < end && c.State != pending || now == end && c.State != rejected {
				t.Fatal(s, now)
			}
			if c, _ := Find(s, 2); k%3 == 0 && c.State == pending && r.below(4) == 0 {
				s = verdict(t, s, c.Image, false, now, 2)
			}
		}
		if c, _ := Find(s, 2); c.State != rejected {
			t.Fatal(s)
		}
	}
}

// owners adds the images that pending checks have to those that were seen, and checks that no number is used twice.
func owners(t *testing.T, s api.Screening, seen map[int]api.Check) {
	t.Helper()
	for _, c := range s.L {
		c.State = pending
		if before, ok := seen[c.Image]; ok && before != c {
			t.Fatal(s, before, c)
		}
		seen[c.Image] = c
		if c.Image >= s.Next {
			t.Fatal(s, c)
		}
	}
}

func TestClearedByVerdictOnly(t *testing.T) { // the consequences
	r, count := random(3), 0
	for k := range 200 {
		s, now, seen := open(t, k%5, k%7, k%3, k%11), 0, map[int]api.Check{}
		for range 300 {
			now += r.below(3)
			before, x, bag, e := Cleared(s), s, 0, api.OK
			switch k := r.below(4); k {
			case 0:
				x, e = Start(s, 1+r.below(api.MaxBags), now)
			case 1:
				x, e = Expire(s, now)
			default:
				image := s.Next - r.below(8)
				x, bag, e = Verdict(s, image, k == 2, now)
				if c, _ := Find(s, bag); e == api.OK && (c.Image != image || c.State != pending || now > c.Since+s.Limits[c.Level-1]) {
					t.Fatal(s, image, now, bag)
				}
				if e == api.OK && k == 2 {
					before = append(before, bag)
					slices.Sort(before)
					count++
				}
			}
			if e != api.OK {
				continue
			}
			if !slices.Equal(Cleared(x), before) || x.Next < s.Next {
				t.Fatal(s, x, before)
			}
			s = x
			owners(t, s, seen)
		}
	}
	if count < 1000 {
		t.Error("seldom:", count)
	}
}
