package registry

import (
	"math"
	"reflect"
	"slices"
	"testing"

	"baggage/api"
	"baggage/inbox"
	"baggage/message"
	"baggage/plate"
)

// leg returns a leg of a flight with a number.
func leg(n int) api.Leg {
	return api.Leg{Flight: api.Flight{Carrier: "SK", Number: n, Suffix: "A", Day: 7}, Port: "CPH", Class: "Y"}
}

// tag returns a plate with a serial number.
func tag(serial int) api.Plate {
	return api.Plate{Airline: 117, Serial: serial}
}

// source returns a source message for some plates, whose bags leave with the flight 1.
func source(serial, count int) api.Message {
	return api.Message{Kind: api.MsgSource, Port: "ARN", Number: 1, Out: leg(1), Onward: []api.Leg{leg(8), leg(9)}, First: tag(serial), Count: count, Load: true, Status: api.PaxChecked, Sequence: 31, Weight: 12, Surname: "DOE", Given: "JAN", Exception: api.ExcRush}
}

// transfer returns a transfer message, all data of which differ from those of source.
func transfer(serial, count int) api.Message {
	return api.Message{Kind: api.MsgTransfer, Port: "OSL", Number: 2, In: leg(3), Out: leg(2), Onward: []api.Leg{leg(7)}, First: tag(serial), Count: count, Status: api.PaxStandby, Sequence: 32, Weight: 13, Surname: "ROE", Given: "PAT", Exception: api.ExcCrew}
}

func processed(serial, count int, node string) api.Message {
	return api.Message{Kind: api.MsgProcessed, Port: "ARN", Number: 3, First: tag(serial), Count: count, Node: node}
}

func unload(serial, count, f int) api.Message {
	return api.Message{Kind: api.MsgUnload, Port: "ARN", Number: 4, Out: leg(f), First: tag(serial), Count: count}
}

func boarding(f int, passengers ...int) api.Message {
	return api.Message{Kind: api.MsgBoarding, Port: "ARN", Number: 5, Out: leg(f), List: passengers}
}

func do(what int, m api.Message) api.Message {
	m.Do = what
	return m
}

// bag returns the bag that a source or transfer message without errors adds for a plate.
func bag(m api.Message, p api.Plate) api.Bag {
	return api.Bag{Plate: p, In: m.In, Out: m.Out, Onward: m.Onward, Sequence: m.Sequence, Status: m.Status, Weight: m.Weight, Load: m.Load, Surname: m.Surname, Given: m.Given, Exception: m.Exception}
}

// sameBag takes nil and empty slices for the same.
func sameBag(a, b api.Bag) bool {
	if len(a.Onward)+len(b.Onward) == 0 {
		a.Onward, b.Onward = nil, nil
	}
	return reflect.DeepEqual(a, b)
}

func sameRegistry(a, b api.Registry) bool {
	return slices.EqualFunc(a.L, b.L, sameBag)
}

// play applies messages, which are accepted.
func play(t *testing.T, r api.Registry, l ...api.Message) api.Registry {
	t.Helper()
	for _, m := range l {
		x, e := Apply(r, m)
		if e != api.OK || Validate(x) != api.OK {
			t.Fatalf("%v: %v, %d", m, x, e)
		}
		r = x
	}
	return r
}

// refuse applies a message that is refused.
func refuse(t *testing.T, r api.Registry, m api.Message, want api.Errno) {
	t.Helper()
	x, e := Apply(r, m)
	if e != want || len(x.L) != 0 {
		t.Errorf("%v: %v, %d, not %d", m, x, e, want)
	}
}

// expect compares the bags of a registry with others.
func expect(t *testing.T, r api.Registry, want ...api.Bag) {
	t.Helper()
	if !sameRegistry(r, api.Registry{L: want}) {
		t.Errorf("%v, not %v", r.L, want)
	}
}

// of returns a registry whose bags have only plates.
func of(plates ...api.Plate) api.Registry {
	var r api.Registry
	for _, p := range plates {
		r.L = append(r.L, api.Bag{Plate: p})
	}
	return r
}

// many returns n plates in their order.
func many(n int) []api.Plate {
	var l []api.Plate
	for i := range n {
		l = append(l, tag(2*i))
	}
	return l
}

// badPlates returns plates that are just out of a range.
func badPlates() []api.Plate {
	return []api.Plate{
		{},
		{Lead: -1, Airline: 1},
		{Lead: 10, Airline: 1},
		{Airline: -1},
		{Airline: 1000},
		{Airline: 1, Serial: -1},
		{Airline: 1, Serial: 1000000},
		{Lead: math.MaxInt, Airline: math.MinInt, Serial: math.MaxInt},
	}
}

// disorders returns valid plates that are not strictly ascending.
func disorders() [][]api.Plate {
	return [][]api.Plate{
		{tag(1), tag(1)},
		{tag(2), tag(1)},
		{tag(1), tag(2), tag(2)},
		{tag(1), tag(3), tag(2), tag(4)},
		{{Airline: 118}, {Airline: 117, Serial: 999999}},
		{{Lead: 1, Airline: 1}, {Airline: 999, Serial: 999999}},
		append(many(api.MaxPlates-1), tag(2*api.MaxPlates-4)),
	}
}

func TestValidate(t *testing.T) { // P6.1
	for _, l := range [][]api.Plate{
		nil,
		{},
		{tag(0)},
		{tag(1), tag(2), tag(999999)},
		{{Airline: 1}, {Airline: 1, Serial: 999999}, {Airline: 2}, {Airline: 999, Serial: 999999}, {Lead: 1, Airline: 1}, {Lead: 9, Airline: 999, Serial: 999999}},
		many(api.MaxPlates),
	} {
		if e := Validate(of(l...)); e != api.OK {
			t.Errorf("%v: %d", l, e)
		}
	}
	for _, n := range []int{201, 202, 1000} {
		if e := Validate(of(many(n)...)); e != api.ErrLimit {
			t.Errorf("%d bags: %d", n, e)
		}
	}
	for _, p := range badPlates() {
		for _, l := range [][]api.Plate{{p}, {p, tag(1)}, {tag(1), p}, {tag(1), p, tag(2)}} {
			if e := Validate(of(l...)); e != api.ErrRange {
				t.Errorf("%v: %d", l, e)
			}
		}
	}
	for _, l := range disorders() {
		if e := Validate(of(l...)); e != api.ErrOrder {
			t.Errorf("%v: %d", l, e)
		}
	}
}

func TestValidateLooksOnlyAtPlates(t *testing.T) { // P6.1
	b := api.Bag{Plate: tag(1), Onward: make([]api.Leg, 100), Sequence: -1, Status: 99, Weight: math.MinInt, Exception: 17, Surname: "\xff", Node: "?"}
	if e := Validate(api.Registry{L: []api.Bag{b}}); e != api.OK {
		t.Error(e)
	}
}

func TestOrderOfErrorsOfRegistries(t *testing.T) { // P6.1
	for _, p := range badPlates() {
		for _, d := range disorders() {
			for _, l := range [][]api.Plate{slices.Concat(d[len(d)-2:], []api.Plate{p}), slices.Concat([]api.Plate{p}, d[len(d)-2:])} {
				if e := Validate(of(l...)); e != api.ErrRange {
					t.Errorf("%v: %d, not ErrRange", l, e)
				}
			}
			l := slices.Concat([]api.Plate{p}, d, many(api.MaxPlates))
			if e := Validate(of(l...)); e != api.ErrLimit {
				t.Errorf("%v: %d, not ErrLimit", l, e)
			}
		}
	}
}

// badMessages returns messages with errors of message.Validate.
func badMessages() []api.Message {
	state := processed(1, 1, "G7")
	state.Do = api.DoDelete
	limit := source(1, 1)
	limit.Onward = make([]api.Leg, api.MaxOnward+1)
	count := source(1, api.MaxRun+1)
	number := boarding(1)
	number.Number = 0
	return []api.Message{{}, {Kind: 9}, state, limit, processed(1, 1, ""), count, source(1, 0), source(-1, 1), source(1000000, 1), do(3, source(1, 1)), number, boarding(1, 2, 2)}
}

func TestOrderOfErrors(t *testing.T) { // P6.2
	messages := slices.Concat(badMessages(), []api.Message{source(1, 1), source(500, 1), do(api.DoDelete, transfer(600, 1)), processed(700, 1, "G7"), unload(1, 1, 9), boarding(1)})
	invalid := []api.Registry{of(many(api.MaxPlates + 1)...), of(api.Plate{}), of(tag(2), tag(1))}
	for _, m := range messages {
		for _, r := range invalid {
			refuse(t, r, m, Validate(r))
		}
	}
	full := of(many(api.MaxPlates)...)
	for _, m := range badMessages() {
		for _, r := range []api.Registry{{}, of(tag(1)), full} {
			refuse(t, r, m, message.Validate(m))
		}
	}
}

func TestDoNew(t *testing.T) { // P6.2
	s, x := source(5, 2), transfer(1, 2)
	r := play(t, api.Registry{}, s)
	expect(t, r, bag(s, tag(5)), bag(s, tag(6)))
	r = play(t, r, x)
	expect(t, r, bag(x, tag(1)), bag(x, tag(2)), bag(s, tag(5)), bag(s, tag(6)))
	for _, m := range []api.Message{s, x, source(6, 1), source(2, 1), source(4, 2), source(4, 3), transfer(5, 1), transfer(6, 90), source(999999, 3)} {
		refuse(t, r, m, api.ErrDuplicate)
	}
	r = play(t, r, source(3, 2), source(7, 1), source(0, 1))
	if len(r.L) != 8 {
		t.Error(r)
	}
}

func TestDataAtTheirEnds(t *testing.T) { // P6.2
	for _, m := range []api.Message{
		{Kind: api.MsgSource, Port: "ARN", Number: 1, Out: leg(1), First: tag(1), Count: 1, Status: api.PaxChecked, Sequence: 1, Surname: "X"},
		{Kind: api.MsgSource, Port: "ARN", Number: 9999, Out: leg(9999), Onward: []api.Leg{leg(1), leg(2), leg(3)}, First: tag(1), Count: 1, Load: true, Status: api.PaxBoarded, Sequence: 999, Weight: 999, Surname: "ABCDEFGHIJKLMNOPQRST", Given: "ABCDEFGHIJKLMNOPQRST", Exception: api.ExcCargo},
		{Kind: api.MsgTransfer, Port: "ARN", Number: 1, In: leg(9), Out: leg(9), Onward: []api.Leg{leg(9)}, First: tag(1), Count: 1, Status: api.PaxAbsent, Sequence: 500, Weight: 1, Surname: "Y", Given: "Z"},
	} {
		r := play(t, api.Registry{}, m)
		expect(t, r, bag(m, tag(1)))
		r = play(t, play(t, api.Registry{}, source(1, 1)), do(api.DoUpdate, m))
		expect(t, r, bag(m, tag(1)))
	}
}

func TestPlatesThatRunOver(t *testing.T) { // P6.2
	m := source(999998, 4)
	r := play(t, api.Registry{}, m)
	expect(t, r, bag(m, tag(0)), bag(m, tag(1)), bag(m, tag(999998)), bag(m, tag(999999)))
	r = play(t, r, processed(999999, 2, "G7"), do(api.DoDelete, source(1, 1)), do(api.DoDelete, transfer(999998, 1)))
	first, last := bag(m, tag(0)), bag(m, tag(999999))
	first.Node, last.Node = "G7", "G7"
	expect(t, r, first, last)
	other := source(5, 1)
	other.First = api.Plate{Lead: 1, Airline: 1, Serial: 5}
	r = play(t, r, other)
	expect(t, r, first, last, bag(other, other.First))
}

func TestLimitOfPlates(t *testing.T) { // P6.2
	r := play(t, api.Registry{}, source(100, 99), source(300, 99))
	refuse(t, r, source(500, 3), api.ErrLimit)
	refuse(t, r, source(500, 99), api.ErrLimit)
	refuse(t, r, transfer(500, 3), api.ErrLimit)
	refuse(t, r, source(398, 4), api.ErrDuplicate)
	more := play(t, r, source(500, 1))
	refuse(t, more, source(0, 2), api.ErrLimit)
	r = play(t, r, source(500, 2))
	if len(r.L) != api.MaxPlates {
		t.Error(len(r.L))
	}
	refuse(t, r, source(0, 1), api.ErrLimit)
	refuse(t, r, transfer(999, 1), api.ErrLimit)
	refuse(t, r, source(501, 2), api.ErrDuplicate)
	refuse(t, r, do(api.DoUpdate, source(501, 2)), api.ErrMissing)
	play(t, r, do(api.DoUpdate, source(300, 99)), processed(100, 99, "G7"), unload(500, 2, 1), boarding(1))
	play(t, r, do(api.DoDelete, source(501, 1)), source(0, 1))
}

func TestDoUpdate(t *testing.T) { // P6.2
	s, x := source(5, 4), do(api.DoUpdate, transfer(6, 2))
	r := play(t, api.Registry{}, s, processed(7, 2, "G7"), unload(6, 2, 1), x)
	b := []api.Bag{bag(s, tag(5)), bag(x, tag(6)), bag(x, tag(7)), bag(s, tag(8))}
	b[1].Unloaded = true
	b[2].Node, b[2].Unloaded = "G7", true
	b[3].Node = "G7"
	expect(t, r, b...)
	back := do(api.DoUpdate, source(6, 1)) // a source message has no In
	r = play(t, r, back)
	b[1] = bag(back, tag(6))
	b[1].Unloaded = true // though Load is true again
	expect(t, r, b...)
	for _, m := range []api.Message{source(4, 1), source(4, 2), source(8, 2), source(9, 1), source(0, 99), transfer(4, 6), transfer(300, 99)} {
		refuse(t, r, do(api.DoUpdate, m), api.ErrMissing)
	}
	refuse(t, api.Registry{}, do(api.DoUpdate, source(1, 1)), api.ErrMissing)
}

func TestDoDelete(t *testing.T) { // P6.2
	s := source(5, 5)
	r := play(t, api.Registry{}, s)
	for _, m := range []api.Message{source(4, 1), source(4, 2), source(9, 2), source(10, 1), source(0, 99), transfer(4, 7)} {
		refuse(t, r, do(api.DoDelete, m), api.ErrMissing)
	}
	r = play(t, r, do(api.DoDelete, transfer(6, 2))) // whatever its data are
	expect(t, r, bag(s, tag(5)), bag(s, tag(8)), bag(s, tag(9)))
	refuse(t, r, do(api.DoDelete, source(5, 2)), api.ErrMissing)
	refuse(t, r, do(api.DoDelete, source(5, 5)), api.ErrMissing)
	r = play(t, r, do(api.DoDelete, source(8, 2)), do(api.DoDelete, source(5, 1)))
	expect(t, r)
	refuse(t, r, do(api.DoDelete, source(5, 1)), api.ErrMissing)
	play(t, r, source(5, 5))
}

func TestABagThatIsAddedAgainIsNew(t *testing.T) { // P6.2
	s := source(5, 1)
	r := play(t, api.Registry{}, transfer(5, 1), processed(5, 1, "G7"), unload(5, 1, 2), do(api.DoDelete, s), s)
	expect(t, r, bag(s, tag(5)))
}

func TestProcessed(t *testing.T) { // P6.2
	s := source(5, 3)
	r := play(t, api.Registry{}, s, processed(6, 2, "G7"), processed(6, 1, "BELT1"))
	b := []api.Bag{bag(s, tag(5)), bag(s, tag(6)), bag(s, tag(7))}
	b[1].Node, b[2].Node = "BELT1", "G7"
	expect(t, r, b...)
	for _, m := range []api.Message{processed(4, 1, "X"), processed(4, 2, "X"), processed(7, 2, "X"), processed(8, 1, "X"), processed(1, 99, "X")} {
		refuse(t, r, m, api.ErrMissing)
	}
	refuse(t, api.Registry{}, processed(5, 1, "X"), api.ErrMissing)
}

func TestUnload(t *testing.T) { // P6.2
	s, x := source(5, 2), transfer(7, 1)
	r := play(t, api.Registry{}, s, x, processed(5, 3, "G7"), unload(6, 1, 1))
	b := []api.Bag{bag(s, tag(5)), bag(s, tag(6)), bag(x, tag(7))}
	for i := range b {
		b[i].Node = "G7"
	}
	b[1].Unloaded, b[1].Load = true, false
	expect(t, r, b...)
	expect(t, play(t, r, unload(6, 1, 1)), b...)
	b[2].Unloaded = true // its Load is false already
	expect(t, play(t, r, unload(7, 1, 2)), b...)
	for _, m := range []api.Message{unload(5, 1, 2), unload(5, 3, 1), unload(5, 3, 2), unload(6, 2, 1), unload(6, 2, 2), unload(7, 1, 1), unload(5, 1, 3)} {
		refuse(t, r, m, api.ErrState)
	}
	for _, m := range []api.Message{unload(4, 1, 1), unload(4, 2, 2), unload(7, 2, 1), unload(7, 2, 2), unload(5, 4, 3), unload(8, 1, 1)} { // also where a flight differs
		refuse(t, r, m, api.ErrMissing)
	}
}

func TestFlightOfUnload(t *testing.T) { // P6.2
	r := play(t, api.Registry{}, source(5, 1))
	for _, c := range []struct {
		set  func(*api.Leg)
		want api.Errno
	}{
		{func(g *api.Leg) { g.Port = "OSL" }, api.OK},
		{func(g *api.Leg) { g.Class = "F" }, api.OK},
		{func(g *api.Leg) { g.Flight.Carrier = "SL" }, api.ErrState},
		{func(g *api.Leg) { g.Flight.Number = 2 }, api.ErrState},
		{func(g *api.Leg) { g.Flight.Suffix = "" }, api.ErrState},
		{func(g *api.Leg) { g.Flight.Day = 8 }, api.ErrState},
		{func(g *api.Leg) { *g = leg(8) }, api.ErrState}, // the flight of an onward leg
	} {
		m := unload(5, 1, 1)
		c.set(&m.Out)
		if c.want == api.OK {
			play(t, r, m)
		} else {
			refuse(t, r, m, c.want)
		}
	}
}

func TestBoarding(t *testing.T) { // P6.2
	for _, r := range []api.Registry{
		{},
		play(t, api.Registry{}, source(5, 3), transfer(1, 2), processed(6, 1, "G7"), unload(7, 1, 1)),
		of(many(api.MaxPlates)...),
	} {
		for _, m := range []api.Message{boarding(1), boarding(1, 31), boarding(2, 1, 32, 999), boarding(9, 1, 2, 3)} {
			if x, e := Apply(r, m); e != api.OK || !sameRegistry(x, r) {
				t.Errorf("%v: %v, %d, not %v", m, x, e, r)
			}
		}
	}
}

func TestExamples(t *testing.T) { // P6.2
	m := source(1, 2)
	r := play(t, api.Registry{}, m)
	if len(r.L) != 2 || plate.Format(r.L[0].Plate) != "0117000001" || plate.Format(r.L[1].Plate) != "0117000002" {
		t.Error(r)
	}
	refuse(t, r, m, api.ErrDuplicate)
	expect(t, play(t, r, do(api.DoDelete, m)))
	refuse(t, r, processed(3, 1, "G7"), api.ErrMissing)
}

func TestFind(t *testing.T) { // P6.3
	s := source(0, 99)
	s.First.Lead = 3
	r := play(t, api.Registry{}, source(10, 50), transfer(100, 50), s, processed(20, 30, "G7"))
	for lead := range 4 {
		for serial := range 200 {
			p := api.Plate{Lead: lead, Airline: 117, Serial: serial}
			i := slices.IndexFunc(r.L, func(b api.Bag) bool { return b.Plate == p })
			b, ok := Find(r, p)
			if ok != (i >= 0) || ok && !sameBag(b, r.L[i]) || !ok && !sameBag(b, api.Bag{}) {
				t.Errorf("%v: %v, %v", p, b, ok)
			}
		}
	}
	for _, p := range append(badPlates(), api.Plate{Airline: 116, Serial: 10}, api.Plate{Airline: 118, Serial: 10}, tag(999999)) {
		for _, r := range []api.Registry{{}, r} {
			if b, ok := Find(r, p); ok || !sameBag(b, api.Bag{}) {
				t.Errorf("%v: %v, %v", p, b, ok)
			}
		}
	}
}

// serials returns the serial numbers of plates of the airline 117.
func serials(t *testing.T, l []api.Plate) []int {
	t.Helper()
	var out []int
	for _, p := range l {
		if p != tag(p.Serial) {
			t.Error(p)
		}
		out = append(out, p.Serial)
	}
	return out
}

func TestOfFlightAndOfPassenger(t *testing.T) { // P6.3
	other := source(40, 2)
	other.Sequence = 7
	both := transfer(50, 1) // another flight, the same number of a passenger
	both.Sequence = 7
	r := play(t, api.Registry{}, other, source(999999, 2), source(30, 1), transfer(20, 2), both, do(api.DoUpdate, transfer(41, 1)), unload(30, 1, 1))
	for _, c := range []struct {
		f        api.Flight
		sequence int
		want     []int
	}{
		{leg(1).Flight, -1, []int{0, 30, 40, 999999}},
		{leg(2).Flight, -1, []int{20, 21, 41, 50}},
		{leg(1).Flight, 31, []int{0, 30, 999999}},
		{leg(1).Flight, 7, []int{40}},
		{leg(1).Flight, 32, nil},
		{leg(1).Flight, 0, nil},
		{leg(1).Flight, math.MaxInt, nil},
		{leg(2).Flight, 32, []int{20, 21, 41}},
		{leg(2).Flight, 7, []int{50}},
		{leg(2).Flight, 31, nil},
		{leg(3).Flight, -1, nil}, // the flight of In
		{leg(7).Flight, -1, nil}, // and of an onward leg
		{leg(8).Flight, 31, nil},
		{api.Flight{Carrier: "SL", Number: 1, Suffix: "A", Day: 7}, -1, nil},
		{api.Flight{Carrier: "SK", Number: 1, Day: 7}, -1, nil},
		{api.Flight{Carrier: "SK", Number: 1, Suffix: "A", Day: 8}, 31, nil},
		{api.Flight{}, -1, nil},
		{api.Flight{Carrier: "\xff", Number: math.MinInt, Day: math.MaxInt}, 31, nil},
	} {
		got := OfPassenger(r, c.f, c.sequence)
		if c.sequence == -1 {
			if len(got) != 0 {
				t.Error(c, got)
			}
			got = OfFlight(r, c.f)
		}
		if !slices.Equal(serials(t, got), c.want) {
			t.Errorf("%v: %v", c, got)
		}
	}
	if len(OfFlight(api.Registry{}, leg(1).Flight))+len(OfPassenger(api.Registry{}, leg(1).Flight, 31)) != 0 {
		t.Error("empty")
	}
}

func TestFieldsOfBagsAreCompared(t *testing.T) { // P6.3: a registry is valid whatever its bags are
	r := of(tag(1), tag(2))
	r.L[1].Sequence = -5
	if l := OfFlight(r, api.Flight{}); !slices.Equal(l, []api.Plate{tag(1), tag(2)}) {
		t.Error(l)
	}
	if l := OfPassenger(r, api.Flight{}, 0); !slices.Equal(l, []api.Plate{tag(1)}) {
		t.Error(l)
	}
	if l := OfPassenger(r, api.Flight{}, -5); !slices.Equal(l, []api.Plate{tag(2)}) {
		t.Error(l)
	}
}

func TestRegistriesThatAreNotValidAreEmpty(t *testing.T) { // Terms, P6.3
	m := source(0, 1)
	var invalid []api.Registry
	for _, l := range append(disorders(), append(badPlates(), tag(1)), append([]api.Plate{tag(1)}, badPlates()...), many(api.MaxPlates+1)) {
		r := of(l...)
		for i := range r.L {
			r.L[i] = bag(m, r.L[i].Plate)
		}
		invalid = append(invalid, r)
	}
	for _, r := range invalid {
		for _, b := range r.L {
			if x, ok := Find(r, b.Plate); ok || !sameBag(x, api.Bag{}) {
				t.Errorf("%v in %v: %v", b.Plate, r, x)
			}
		}
		if l := OfFlight(r, leg(1).Flight); len(l) != 0 {
			t.Error(r, l)
		}
		if l := OfPassenger(r, leg(1).Flight, 31); len(l) != 0 {
			t.Error(r, l)
		}
	}
	most := of(many(api.MaxPlates)...)
	for i, b := range most.L {
		most.L[i] = bag(m, b.Plate)
		if _, ok := Find(most, b.Plate); !ok {
			t.Error(b.Plate)
		}
	}
	if n := len(OfFlight(most, leg(1).Flight)); n != api.MaxPlates {
		t.Error(n)
	}
	if n := len(OfPassenger(most, leg(1).Flight, 31)); n != api.MaxPlates {
		t.Error(n)
	}
}

// model is a registry as the chapter describes it, without any order.
type model map[api.Plate]api.Bag

// apply changes the model, or returns the error of a valid message.
func (o model) apply(m api.Message) api.Errno {
	data := m.Kind == api.MsgSource || m.Kind == api.MsgTransfer
	fresh := data && m.Do == api.DoNew
	next := model{}
	for p, b := range o {
		next[p] = b
	}
	for _, p := range message.Plates(m) {
		if _, ok := o[p]; ok == fresh {
			return map[bool]api.Errno{true: api.ErrDuplicate, false: api.ErrMissing}[fresh]
		}
		b := o[p]
		switch {
		case data && m.Do == api.DoDelete:
			delete(next, p)
			continue
		case data:
			node, unloaded := b.Node, b.Unloaded
			b = bag(m, p)
			b.Node, b.Unloaded = node, unloaded
		case m.Kind == api.MsgProcessed:
			b.Node = m.Node
		case m.Kind == api.MsgUnload:
			b.Load, b.Unloaded = false, true
		}
		next[p] = b
	}
	if len(next) > api.MaxPlates {
		return api.ErrLimit
	}
	for _, p := range message.Plates(m) {
		if m.Kind == api.MsgUnload && o[p].Out.Flight != m.Out.Flight {
			return api.ErrState
		}
	}
	clear(o)
	for p, b := range next {
		o[p] = b
	}
	return api.OK
}

// registry returns the bags of the model in their order.
func (o model) registry() api.Registry {
	var r api.Registry
	for _, b := range o {
		r.L = append(r.L, b)
	}
	slices.SortFunc(r.L, func(a, b api.Bag) int { return plate.Compare(a.Plate, b.Plate) })
	return r
}

// pick returns a message that depends on a number, about a few plates on both sides of the greatest one.
func pick(k uint32, spread int) api.Message {
	serial := (1000000 - spread/2 + int(k>>8)%spread) % 1000000
	count := 1 + int(k>>16)%3
	if spread > 100 {
		count = 1 + int(k>>16)%api.MaxRun
	}
	f := 1 + int(k>>3)%2
	switch k % 8 {
	case 0:
		return do(int(k>>4)%3, transfer(serial, count))
	case 1, 2, 3:
		m := do(int(k>>4)%2*int(k>>5)%3, source(serial, count))
		m.Weight, m.Out = int(k>>6)%100, leg(f)
		return m
	case 4:
		return do(api.DoDelete, source(serial, count))
	case 5:
		return processed(serial, count, []string{"G7", "BELT1", "X"}[k>>4%3])
	case 6:
		return unload(serial, count, f)
	}
	return boarding(f, 31, 32)
}

func TestLongSequences(t *testing.T) { // P6.2, P6.3
	seen := map[api.Errno]int{}
	for start := range 200 {
		state := uint32(start)
		spread := 6 + start%7
		if start%4 == 0 {
			spread = 600
		}
		r, o := api.Registry{}, model{}
		for range 150 {
			state = state*1664525 + 1013904223
			m := pick(state>>4, spread)
			want := o.apply(m)
			seen[want]++
			x, e := Apply(r, m)
			if e != want || e != api.OK && len(x.L) != 0 {
				t.Fatalf("%v of %v: %v, %d, not %d", m, r, x, e, want)
			}
			if e != api.OK {
				continue
			}
			if r = x; !sameRegistry(r, o.registry()) || Validate(r) != api.OK {
				t.Fatalf("%v: %v, not %v", m, r, o.registry())
			}
		}
		checkQuestions(t, r)
	}
	for _, e := range []api.Errno{api.OK, api.ErrDuplicate, api.ErrLimit, api.ErrMissing, api.ErrState} {
		if seen[e] < 20 {
			t.Error("seldom:", e, seen[e])
		}
	}
}

// checkQuestions compares what is found in a registry with its bags.
func checkQuestions(t *testing.T, r api.Registry) {
	t.Helper()
	for n := range 3 {
		for sequence := 30; sequence < 34; sequence++ {
			var flights, passengers []api.Plate
			for _, b := range r.L {
				if x, ok := Find(r, b.Plate); !ok || !sameBag(x, b) {
					t.Fatal(b, x, ok)
				}
				if b.Out.Flight == leg(n).Flight {
					flights = append(flights, b.Plate)
					if b.Sequence == sequence {
						passengers = append(passengers, b.Plate)
					}
				}
			}
			if !slices.Equal(OfFlight(r, leg(n).Flight), flights) || !slices.Equal(OfPassenger(r, leg(n).Flight, sequence), passengers) {
				t.Fatal(r, n, sequence)
			}
		}
	}
}

func TestNewAndDeleteLeaveNothing(t *testing.T) { // Consequences
	r := play(t, api.Registry{}, source(50, 20), transfer(80, 5), processed(55, 20-5, "G7"))
	for _, serial := range []int{0, 10, 40, 70, 75, 90, 999990} {
		for _, count := range []int{1, 2, 5, 9, 10} {
			m := transfer(serial, count)
			x, e := Apply(r, m)
			if e != api.OK {
				continue
			}
			if len(x.L) != len(r.L)+count {
				t.Error(m, x)
			}
			if x = play(t, x, do(api.DoDelete, m)); !sameRegistry(x, r) {
				t.Errorf("%v: %v, not %v", m, x, r)
			}
		}
	}
}

// permute calls visit with each order of l.
func permute(l []api.Message, k int, visit func([]api.Message)) {
	if k == len(l) {
		visit(l)
		return
	}
	for i := k; i < len(l); i++ {
		l[k], l[i] = l[i], l[k]
		permute(l, k+1, visit)
		l[k], l[i] = l[i], l[k]
	}
}

func TestAnyOrderOfDelivery(t *testing.T) { // W8
	l := []api.Message{source(5, 3), do(api.DoUpdate, transfer(6, 2)), processed(5, 2, "G7"), do(api.DoDelete, source(5, 1)), source(4, 2), unload(6, 1, 2)}
	want := play(t, api.Registry{}, l...)
	for i := range l {
		l[i].Port, l[i].Number = "ARN", i+1
	}
	permute(l, 0, func(order []api.Message) {
		x, _ := inbox.New(len(l))
		r := api.Registry{}
		for _, m := range slices.Concat(order, order) {
			for range 2 {
				y, released, _, e := inbox.Receive(x, m)
				if e != api.OK {
					t.Fatal(m, e)
				}
				x, r = y, play(t, r, released...)
			}
		}
		if !sameRegistry(r, want) {
			t.Fatalf("%v: %v, not %v", order, r, want)
		}
	})
}

// block is the memory of a slice, with its spare capacity.
type block struct{ from, to uintptr }

// blocks adds the memory of all slices in v. The elements in the spare capacity are seen too.
func blocks(l []block, v reflect.Value) []block {
	switch v.Kind() {
	case reflect.Struct:
		for i := range v.NumField() {
			l = blocks(l, v.Field(i))
		}
	case reflect.Slice:
		if v.Cap() > 0 {
			l = append(l, block{v.Pointer(), v.Pointer() + uintptr(v.Cap())*v.Type().Elem().Size()})
		}
		for i := range v.Cap() {
			l = blocks(l, v.Slice(0, v.Cap()).Index(i))
		}
	}
	return l
}

// checkApart fails if two slices in the values share memory.
func checkApart(t *testing.T, values ...interface{}) {
	t.Helper()
	var l []block
	for _, x := range values {
		l = blocks(l, reflect.ValueOf(x))
	}
	slices.SortFunc(l, func(a, b block) int { return int(a.from) - int(b.from) })
	for i := 1; i < len(l); i++ {
		if l[i].from < l[i-1].to {
			t.Fatalf("shared memory in %v", values)
		}
	}
}

// roomy returns r with spare capacity everywhere, which is not zero, in memory of its own.
func roomy(r api.Registry) api.Registry {
	var x api.Registry
	for _, b := range r.L {
		n := len(b.Onward)
		b.Onward = append(slices.Clone(b.Onward), leg(5), leg(6))[:n]
		x.L = append(x.L, b)
	}
	for i := range 120 { // so many that each message would fit
		x.L = append(x.L, api.Bag{Plate: tag(i), Node: "SPARE", Onward: []api.Leg{leg(4)}})
	}
	x.L = x.L[:len(r.L)]
	return x
}

// whole returns r with its spare capacity as elements.
func whole(r api.Registry) api.Registry {
	var x api.Registry
	for _, b := range r.L[:cap(r.L)] {
		b.Onward = slices.Clone(b.Onward[:cap(b.Onward)])
		x.L = append(x.L, b)
	}
	return x
}

func TestMemory(t *testing.T) { // rule 2
	for _, r := range []api.Registry{
		{},
		play(t, api.Registry{}, source(5, 1)),
		play(t, api.Registry{}, source(5, 3), transfer(1, 2), source(999999, 2), processed(6, 1, "G7")),
		of(many(api.MaxPlates)...),
	} {
		r = roomy(r)
		before := whole(r)
		for k := range uint32(2000) {
			checkMessage(t, r, pick(k*2654435761>>4, 12))
		}
		for _, m := range []api.Message{boarding(1, 31), do(api.DoDelete, source(5, 1)), source(50, 99), do(api.DoUpdate, transfer(5, 1)), processed(5, 1, "G7"), unload(5, 1, 1)} {
			checkMessage(t, r, m)
		}
		for i := range 10 {
			b, _ := Find(r, tag(i))
			c, _ := Find(r, tag(i))
			checkApart(t, r, b, c)
		}
		f := leg(1).Flight
		checkApart(t, r, OfFlight(r, f), OfFlight(r, f), OfPassenger(r, f, 31), OfPassenger(r, f, 31))
		if !sameRegistry(whole(r), before) {
			t.Error(r)
		}
	}
}

// checkMessage fails if the result of a message shares memory with anything.
func checkMessage(t *testing.T, r api.Registry, m api.Message) {
	t.Helper()
	m.Onward = append(slices.Clone(m.Onward), leg(4))[:len(m.Onward)]
	m.List = append(slices.Clone(m.List), 99)[:len(m.List)]
	onward, list := slices.Clone(m.Onward[:cap(m.Onward)]), slices.Clone(m.List[:cap(m.List)])
	x, _ := Apply(r, m)
	y, _ := Apply(r, m)
	checkApart(t, r, m, x, y)
	if !slices.Equal(m.Onward[:cap(m.Onward)], onward) || !slices.Equal(m.List[:cap(m.List)], list) {
		t.Fatal(m)
	}
}

func TestNilAndEmptySlicesAreTheSame(t *testing.T) { // rule 2
	m := source(5, 1)
	m.Onward, m.List = []api.Leg{}, []int{}
	r := play(t, api.Registry{L: []api.Bag{}}, m)
	m.Onward, m.List = nil, nil
	expect(t, r, bag(m, tag(5)))
}
