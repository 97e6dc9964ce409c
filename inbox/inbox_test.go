package inbox

import (
	"math"
	"reflect"
	"slices"
	"testing"

	"baggage/api"
	"baggage/message"
)

var home = api.Leg{Flight: api.Flight{Carrier: "SK", Number: 123, Day: 7}, Port: "CPH", Class: "Y"}

// note returns a message without slices.
func note(port string, n int) api.Message {
	return api.Message{Kind: api.MsgProcessed, Port: port, Number: n, First: api.Plate{Airline: 117, Serial: n}, Count: 1, Node: "BELT1"}
}

// source returns a message with legs.
func source(port string, n int) api.Message {
	return api.Message{Kind: api.MsgSource, Port: port, Number: n, Out: home, Onward: []api.Leg{home, home}, First: api.Plate{Airline: 117, Serial: n}, Count: 2, Load: true, Status: api.PaxChecked, Sequence: 31, Weight: 5, Surname: "DOE", Given: "JO"}
}

// boarding returns a message with passengers.
func boarding(port string, n int) api.Message {
	return api.Message{Kind: api.MsgBoarding, Port: port, Number: n, Out: home, List: []int{1, 2, 3}}
}

// sample returns a message whose kind depends on its number.
func sample(port string, n int) api.Message {
	return []func(string, int) api.Message{note, source, boarding}[n%3](port, n)
}

func open(t *testing.T, window int) api.Inbox {
	t.Helper()
	x, e := New(window)
	if e != api.OK {
		t.Fatal(window, e)
	}
	return x
}

func sameMessages(a, b []api.Message) bool {
	return slices.EqualFunc(a, b, message.Same)
}

func sameInbox(a, b api.Inbox) bool {
	return a.Window == b.Window && slices.EqualFunc(a.L, b.L, func(a, b api.Sender) bool {
		return a.Port == b.Port && a.Next == b.Next && sameMessages(a.Held, b.Held)
	})
}

// messages returns the messages of a sender with some numbers.
func messages(port string, numbers ...int) []api.Message {
	var l []api.Message
	for _, n := range numbers {
		l = append(l, sample(port, n))
	}
	return l
}

// step is a message by its number, what becomes of it, and the numbers that it releases.
type step struct {
	n, what  int
	released []int
}

// take gives messages of a sender to an inbox.
func take(t *testing.T, x api.Inbox, port string, steps ...step) api.Inbox {
	t.Helper()
	for _, s := range steps {
		y, l, what, e := Receive(x, sample(port, s.n))
		if e != api.OK || what != s.what || !sameMessages(l, messages(port, s.released...)) {
			t.Fatalf("%s %d of %v: %v, %d, %d, not %v", port, s.n, x, l, what, e, s)
		}
		if kept := s.what == api.RecvHeld || s.what == api.RecvAccepted; sameInbox(x, y) == kept {
			t.Fatalf("%s %d: %v becomes %v", port, s.n, x, y)
		}
		x = y
	}
	return x
}

func TestNew(t *testing.T) { // P5.1
	for _, w := range []int{1, 2, 3, 4, 5, 6, 7, 8} {
		if x, e := New(w); e != api.OK || x.Window != w || len(x.L) != 0 {
			t.Errorf("New(%d) is %v, %d", w, x, e)
		}
	}
	for _, w := range []int{0, -1, -8, 9, 10, 100, math.MinInt, math.MaxInt} {
		if x, e := New(w); e != api.ErrRange || x.Window != 0 || len(x.L) != 0 {
			t.Errorf("New(%d) is %v, %d", w, x, e)
		}
	}
}

func TestExamples(t *testing.T) { // P5.2, P5.3
	x := take(t, open(t, 3), "ARN",
		step{2, api.RecvHeld, nil},
		step{1, api.RecvAccepted, []int{1, 2}},
		step{1, api.RecvRepeated, nil},
		step{4, api.RecvHeld, nil},
		step{7, api.RecvFar, nil})
	if l := Missing(x, "ARN"); !slices.Equal(l, []int{3}) {
		t.Error(l)
	}
	x, l, e := Skip(x, "ARN")
	if e != api.OK || !sameMessages(l, messages("ARN", 4)) || x.L[0].Next != 5 {
		t.Error(x, l, e)
	}
	take(t, x, "ARN", step{3, api.RecvRepeated, nil}, step{4, api.RecvRepeated, nil}, step{5, api.RecvAccepted, []int{5}})
}

func TestEndsOfTheWindow(t *testing.T) { // P5.2
	for w := 1; w <= api.MaxWindow; w++ {
		x := open(t, w)
		for next := 1; next < 20; next++ {
			for n := 1; n < next; n++ {
				take(t, x, "ARN", step{n, api.RecvRepeated, nil})
			}
			for n := next + 1; n < next+w; n++ {
				take(t, x, "ARN", step{n, api.RecvHeld, nil}, step{n, api.RecvRepeated, nil})
			}
			for _, n := range []int{next + w, next + w + 1, next + 2*w, api.MaxNumber} {
				take(t, x, "ARN", step{n, api.RecvFar, nil})
			}
			x = take(t, x, "ARN", step{next, api.RecvAccepted, []int{next}})
		}
	}
}

func TestReleaseUpToAGap(t *testing.T) { // P5.2
	x := take(t, open(t, 8), "ARN",
		step{8, api.RecvHeld, nil}, step{2, api.RecvHeld, nil}, step{5, api.RecvHeld, nil}, step{3, api.RecvHeld, nil}, step{6, api.RecvHeld, nil})
	if !sameInbox(x, api.Inbox{Window: 8, L: []api.Sender{{Port: "ARN", Next: 1, Held: messages("ARN", 2, 3, 5, 6, 8)}}}) {
		t.Error(x)
	}
	x = take(t, x, "ARN", step{1, api.RecvAccepted, []int{1, 2, 3}})
	if !sameInbox(x, api.Inbox{Window: 8, L: []api.Sender{{Port: "ARN", Next: 4, Held: messages("ARN", 5, 6, 8)}}}) {
		t.Error(x)
	}
	x = take(t, x, "ARN", step{11, api.RecvHeld, nil}, step{12, api.RecvFar, nil}, step{4, api.RecvAccepted, []int{4, 5, 6}}, step{7, api.RecvAccepted, []int{7, 8}})
	if !sameInbox(x, api.Inbox{Window: 8, L: []api.Sender{{Port: "ARN", Next: 9, Held: messages("ARN", 11)}}}) {
		t.Error(x)
	}
}

func TestAllNumbers(t *testing.T) { // P5.2
	x := open(t, 2)
	for n := 1; n < api.MaxNumber; n += 2 {
		x = take(t, x, "ARN", step{n + 1, api.RecvHeld, nil}, step{n, api.RecvAccepted, []int{n, n + 1}})
	}
	x = take(t, x, "ARN", step{api.MaxNumber, api.RecvAccepted, []int{api.MaxNumber}}, step{api.MaxNumber, api.RecvRepeated, nil}, step{1, api.RecvRepeated, nil})
	if x.L[0].Next != api.MaxNumber+1 {
		t.Error(x)
	}
	if _, l, what, e := Receive(x, note("ARN", api.MaxNumber+1)); e != api.ErrRange || what != 0 || len(l) != 0 {
		t.Error(l, what, e)
	}
}

func TestConflicts(t *testing.T) { // P5.2
	x := take(t, open(t, 4), "ARN", step{4, api.RecvHeld, nil}, step{3, api.RecvHeld, nil})
	for _, set := range []func(*api.Message){
		func(m *api.Message) { m.Do = api.DoUpdate },
		func(m *api.Message) { m.Out.Flight.Day = 8 },
		func(m *api.Message) { m.Onward[1].Class = "F" },
		func(m *api.Message) { m.Onward = m.Onward[:1] },
		func(m *api.Message) { m.Count = 1 },
		func(m *api.Message) { m.Load = false },
		func(m *api.Message) { m.Given = "" },
		func(m *api.Message) { *m = note(m.Port, m.Number) },
		func(m *api.Message) { *m = boarding(m.Port, m.Number) },
	} {
		m := source("ARN", 4)
		set(&m)
		y, l, what, e := Receive(x, m)
		if e != api.OK || what != api.RecvConflict || len(l) != 0 || !sameInbox(x, y) {
			t.Errorf("%v: %v, %v, %d, %d", m, y, l, what, e)
		}
		m.Port = "CPH" // the same number of another sender
		if _, _, what, e := Receive(x, m); e != api.OK || what != api.RecvHeld {
			t.Error(what, e)
		}
	}
	x = take(t, x, "ARN", step{4, api.RecvRepeated, nil}, step{1, api.RecvAccepted, []int{1}}, step{2, api.RecvAccepted, []int{2, 3, 4}})
	for n := 1; n <= 4; n++ { // what was released is no longer known
		m := note("ARN", n)
		m.Node = "OTHER"
		if y, l, what, e := Receive(x, m); e != api.OK || what != api.RecvRepeated || len(l) != 0 || !sameInbox(x, y) {
			t.Error(n, y, l, what, e)
		}
	}
}

func TestMessagesThatAreNotValid(t *testing.T) { // P5.2
	full := fill(t, api.MaxSenders)
	for _, c := range []struct {
		set func(*api.Message)
		e   api.Errno
	}{
		{func(m *api.Message) { m.Kind = 0 }, api.ErrKind},
		{func(m *api.Message) { m.Kind = 6 }, api.ErrKind},
		{func(m *api.Message) { m.Node = "A" }, api.ErrState},
		{func(m *api.Message) { m.Onward = make([]api.Leg, 4) }, api.ErrLimit},
		{func(m *api.Message) { m.Port = "" }, api.ErrSyntax},
		{func(m *api.Message) { m.Port = "ZZ" }, api.ErrSyntax},
		{func(m *api.Message) { m.Port = "zzz" }, api.ErrSyntax},
		{func(m *api.Message) { m.Surname = "" }, api.ErrSyntax},
		{func(m *api.Message) { m.Number = 0 }, api.ErrRange},
		{func(m *api.Message) { m.Number = math.MinInt }, api.ErrRange},
		{func(m *api.Message) { m.Number = math.MaxInt }, api.ErrRange},
		{func(m *api.Message) { m.Count = 100 }, api.ErrRange},
		{func(m *api.Message) { *m = boarding("ZZZ", 1); m.List = []int{2, 2} }, api.ErrOrder},
	} {
		for _, x := range []api.Inbox{open(t, 8), full} {
			m := source("ZZZ", 1)
			c.set(&m)
			y, l, what, e := Receive(x, m)
			if e != c.e || what != 0 || len(l) != 0 || y.Window != 0 || len(y.L) != 0 {
				t.Errorf("%v: %v, %v, %d, %d, not %d", m, y, l, what, e, c.e)
			}
		}
	}
}

// sender returns ports in an order that is neither ascending nor descending.
func sender(i int) string {
	return string([]byte{'A' + byte(i*7%26), 'A' + byte(i*3%26), 'A' + byte(i)})
}

// fill returns an inbox that knows n senders, one half of which hold a message.
func fill(t *testing.T, n int) api.Inbox {
	t.Helper()
	x := open(t, 4)
	for i := range n {
		s := step{1, api.RecvAccepted, []int{1}}
		if i%2 == 1 {
			s = step{3, api.RecvHeld, nil}
		}
		x = take(t, x, sender(i), s)
	}
	return x
}

func TestLimitOfSenders(t *testing.T) { // P5.2
	for n := range api.MaxSenders + 1 {
		x := fill(t, n)
		if len(x.L) != n {
			t.Fatal(x)
		}
		for number := 1; number <= 10; number++ {
			y, l, what, e := Receive(x, sample("ZZZ", number))
			switch {
			case number > x.Window: // it changes nothing, and needs no room
				if e != api.OK || what != api.RecvFar || len(l) != 0 || !sameInbox(x, y) {
					t.Error(number, y, l, what, e)
				}
			case n < api.MaxSenders:
				if e != api.OK || len(y.L) != n+1 || y.L[n].Port != "ZZZ" {
					t.Error(number, y, e)
				}
			case e != api.ErrLimit || y.Window != 0 || len(y.L) != 0 || len(l) != 0 || what != 0:
				t.Error(number, y, l, what, e)
			}
		}
	}
	x := fill(t, api.MaxSenders)
	for i := range api.MaxSenders { // those that are known are still heard
		if i%2 == 0 {
			x = take(t, x, sender(i), step{1, api.RecvRepeated, nil}, step{3, api.RecvHeld, nil}, step{2, api.RecvAccepted, []int{2, 3}})
		} else {
			x = take(t, x, sender(i), step{2, api.RecvHeld, nil}, step{1, api.RecvAccepted, []int{1, 2, 3}})
		}
	}
}

func TestSendersAreAscending(t *testing.T) { // P5.2
	x := fill(t, api.MaxSenders)
	for i := 1; i < len(x.L); i++ {
		if x.L[i-1].Port >= x.L[i].Port {
			t.Error(x.L[i-1].Port, x.L[i].Port)
		}
	}
	for i := range api.MaxSenders {
		k := slices.IndexFunc(x.L, func(s api.Sender) bool { return s.Port == sender(i) })
		want := api.Sender{Port: sender(i), Next: 2}
		if i%2 == 1 {
			want = api.Sender{Port: sender(i), Next: 1, Held: messages(sender(i), 3)}
		}
		if k < 0 || !sameInbox(api.Inbox{L: x.L[k : k+1]}, api.Inbox{L: []api.Sender{want}}) {
			t.Errorf("%v is not in %v", want, x)
		}
	}
}

func TestWhenASenderBecomesKnown(t *testing.T) { // P5.2
	x := open(t, 2)
	x = take(t, x, "ARN", step{3, api.RecvFar, nil}, step{9999, api.RecvFar, nil})
	if len(x.L) != 0 {
		t.Error(x)
	}
	x = take(t, x, "ARN", step{2, api.RecvHeld, nil})
	x = take(t, x, "CPH", step{1, api.RecvAccepted, []int{1}})
	if len(x.L) != 2 || x.L[0].Next != 1 || x.L[1].Next != 2 {
		t.Error(x)
	}
}

func TestMissing(t *testing.T) { // P5.3
	for w := 1; w <= api.MaxWindow; w++ {
		for set := range 1 << (w - 1) { // the numbers 2 to w that are held
			x := open(t, w)
			for n := w; n >= 2; n-- {
				if set>>(n-2)&1 == 1 {
					x = take(t, x, "ARN", step{n, api.RecvHeld, nil})
				}
			}
			var want []int
			for n := 1; n <= w && set>>max(n-2, 0) != 0; n++ {
				if n == 1 || set>>(n-2)&1 == 0 {
					want = append(want, n)
				}
			}
			if got := Missing(x, "ARN"); !slices.Equal(got, want) {
				t.Errorf("Missing of %v is %v, not %v", x, got, want)
			}
		}
	}
}

func TestNothingIsHeld(t *testing.T) { // P5.3
	x := take(t, open(t, 8), "ARN", step{1, api.RecvAccepted, []int{1}})
	x = take(t, x, "CPH", step{2, api.RecvHeld, nil}, step{4, api.RecvHeld, nil})
	x = take(t, x, "OSL", step{9, api.RecvFar, nil})
	for _, port := range []string{"ARN", "OSL", "AAA", "CPG", "CPI", "ZZZ", "", "CP", "CPHX", "cph", "CPH\x00", "\xff"} {
		if l := Missing(x, port); len(l) != 0 {
			t.Errorf("%q: %v", port, l)
		}
		if y, l, e := Skip(x, port); e != api.ErrMissing || len(l) != 0 || y.Window != 0 || len(y.L) != 0 {
			t.Errorf("%q: %v, %v, %d", port, y, l, e)
		}
	}
	if l := Missing(x, "CPH"); !slices.Equal(l, []int{1, 3}) {
		t.Error(l)
	}
	if l := Missing(open(t, 8), ""); len(l) != 0 {
		t.Error(l)
	}
	if _, _, e := Skip(open(t, 8), ""); e != api.ErrMissing {
		t.Error(e)
	}
}

func TestSkip(t *testing.T) { // P5.3
	x := take(t, open(t, 8), "ARN", step{3, api.RecvHeld, nil}, step{4, api.RecvHeld, nil}, step{6, api.RecvHeld, nil}, step{8, api.RecvHeld, nil})
	x = take(t, x, "OSL", step{2, api.RecvHeld, nil})
	for _, c := range []struct {
		released []int
		next     int
		held     []int
		missing  []int
	}{
		{[]int{3, 4}, 5, []int{6, 8}, []int{5, 7}},
		{[]int{6}, 7, []int{8}, []int{7}},
		{[]int{8}, 9, nil, nil},
	} {
		y, l, e := Skip(x, "ARN")
		want := api.Inbox{Window: 8, L: []api.Sender{{Port: "ARN", Next: c.next, Held: messages("ARN", c.held...)}, {Port: "OSL", Next: 1, Held: messages("OSL", 2)}}}
		if e != api.OK || !sameMessages(l, messages("ARN", c.released...)) || !sameInbox(y, want) {
			t.Errorf("Skip of %v is %v, %v, %d", x, y, l, e)
		}
		if got := Missing(y, "ARN"); !slices.Equal(got, c.missing) {
			t.Errorf("Missing of %v is %v", y, got)
		}
		x = y
	}
	take(t, x, "ARN", step{1, api.RecvRepeated, nil}, step{7, api.RecvRepeated, nil}, step{16, api.RecvHeld, nil}, step{17, api.RecvFar, nil}, step{9, api.RecvAccepted, []int{9}})
}

// model is an inbox of one sender as the chapter describes it, without any order of what is held.
type model struct {
	window, next int
	held         map[int]bool
}

func (o *model) receive(n int) (what int, released []int) {
	switch {
	case n < o.next || o.held[n]:
		return api.RecvRepeated, nil
	case n >= o.next+o.window:
		return api.RecvFar, nil
	}
	o.held[n] = true
	if n > o.next {
		return api.RecvHeld, nil
	}
	return api.RecvAccepted, o.release()
}

func (o *model) release() (l []int) {
	for ; o.held[o.next]; o.next++ {
		delete(o.held, o.next)
		l = append(l, o.next)
	}
	return l
}

func (o *model) missing() (l []int) {
	for n := o.next; n < 100; n++ {
		if !o.held[n] && len(o.held) > 0 && n < o.greatest() {
			l = append(l, n)
		}
	}
	return l
}

func (o *model) greatest() (n int) {
	for k := range o.held {
		n = max(n, k)
	}
	return n
}

func (o *model) skip() ([]int, api.Errno) {
	if len(o.held) == 0 {
		return nil, api.ErrMissing
	}
	for !o.held[o.next] {
		o.next++
	}
	return o.release(), api.OK
}

// follow gives the inbox and the model the same numbers, where 0 stands for Skip.
func follow(t *testing.T, x api.Inbox, numbers []int) {
	t.Helper()
	o := model{window: x.Window, next: 1, held: map[int]bool{}}
	for _, n := range numbers {
		if n > 0 {
			what, released := o.receive(n)
			y, l, got, e := Receive(x, sample("ARN", n))
			if e != api.OK || got != what || !sameMessages(l, messages("ARN", released...)) {
				t.Fatalf("%d: %d of %v: %v, %d, %d", x.Window, n, numbers, l, got, e)
			}
			x = y
		} else {
			released, e := o.skip()
			y, l, got := Skip(x, "ARN")
			if got != e || !sameMessages(l, messages("ARN", released...)) {
				t.Fatalf("%d: skip of %v: %v, %d", x.Window, numbers, l, got)
			}
			if e == api.OK {
				x = y
			}
		}
		if got := Missing(x, "ARN"); !slices.Equal(got, o.missing()) {
			t.Fatalf("%d: %v: missing %v, not %v", x.Window, numbers, got, o.missing())
		}
	}
}

func TestAllSequences(t *testing.T) { // P5.2, P5.3
	const symbols, length = 7, 5 // Skip and the numbers 1 to 6
	total := 1
	for range length {
		total *= symbols
	}
	for w := 1; w <= 6; w++ {
		for k := range total {
			numbers := make([]int, length)
			for i := range numbers {
				numbers[i] = k % symbols
				k /= symbols
			}
			follow(t, open(t, w), numbers)
		}
	}
}

func TestLongSequences(t *testing.T) { // P5.2, P5.3
	for w := 1; w <= api.MaxWindow; w++ {
		for start := range 50 {
			numbers := make([]int, 200)
			state := uint32(start*8 + w)
			for i := range numbers {
				state = state*1664525 + 1013904223
				numbers[i] = max(0, i/8+int(state>>16)%(w+3)-1)
			}
			follow(t, open(t, w), numbers)
		}
	}
}

// permute calls visit with each order of l.
func permute(l []int, k int, visit func([]int)) {
	if k == len(l) {
		visit(l)
		return
	}
	for i := k; i < len(l); i++ {
		l[k], l[i] = l[i], l[k]
		permute(l, k+1, visit)
		l[k], l[i] = l[i], l[k]
	}
}

func TestAnyOrderWithinTheWindow(t *testing.T) { // Consequences
	for w := 1; w <= 6; w++ {
		var numbers []int
		for n := 1; n <= w; n++ {
			numbers = append(numbers, n)
		}
		want := messages("ARN", numbers...)
		permute(slices.Clone(numbers), 0, func(order []int) {
			x := open(t, w)
			var released []api.Message
			for _, n := range slices.Concat(order, order) {
				y, l, _, _ := Receive(x, sample("ARN", n))
				_, again, what, _ := Receive(y, sample("ARN", n))
				if what != api.RecvRepeated || len(again) != 0 {
					t.Fatal(order, n, what)
				}
				released = append(released, l...)
				x = y
			}
			if !sameMessages(released, want) || x.L[0].Next != w+1 || len(x.L[0].Held) != 0 {
				t.Fatal(order, released, x)
			}
		})
	}
}

func TestSendersDoNotInfluenceEachOther(t *testing.T) { // Consequences
	ports := []string{"OSL", "ARN", "CPH"}
	numbers := []int{2, 5, 1, 4, 4, 0, 7, 3, 6, 0, 8}
	together := open(t, 4)
	alone := []api.Inbox{open(t, 4), open(t, 4), open(t, 4)}
	for k := range len(numbers) * len(ports) {
		i := k % len(ports)
		n := numbers[(k/len(ports)+2*i)%len(numbers)]
		if n == 0 {
			x, l, e := Skip(together, ports[i])
			y, want, f := Skip(alone[i], ports[i])
			if e != f || !sameMessages(l, want) {
				t.Error(ports[i], l, e, want, f)
			}
			if e == api.OK {
				together, alone[i] = x, y
			}
			continue
		}
		x, l, what, _ := Receive(together, sample(ports[i], n))
		y, want, as, _ := Receive(alone[i], sample(ports[i], n))
		if what != as || !sameMessages(l, want) || !slices.Equal(Missing(x, ports[i]), Missing(y, ports[i])) {
			t.Error(ports[i], n, l, what, want, as)
		}
		together, alone[i] = x, y
	}
	if !sameInbox(together, api.Inbox{Window: 4, L: slices.Concat(alone[1].L, alone[2].L, alone[0].L)}) {
		t.Error(together, alone)
	}
}

// block is the memory of a slice, with its spare capacity.
type block struct{ from, to uintptr }

// blocks adds the memory of all slices in v. The elements in the spare capacity are seen too.
func blocks(l []block, v reflect.Value) []block {
	switch v.Kind() {
	case reflect.Struct:
		for i := range v.NumField() {
			l = blocks(l, v.Field(i))
		}
	case reflect.Slice:
		if v.Cap() > 0 {
			l = append(l, block{v.Pointer(), v.Pointer() + uintptr(v.Cap())*v.Type().Elem().Size()})
		}
		for i := range v.Cap() {
			l = blocks(l, v.Slice(0, v.Cap()).Index(i))
		}
	}
	return l
}

// checkApart fails if two slices in the values share memory.
func checkApart(t *testing.T, values ...interface{}) {
	t.Helper()
	var l []block
	for _, x := range values {
		l = blocks(l, reflect.ValueOf(x))
	}
	slices.SortFunc(l, func(a, b block) int { return int(a.from) - int(b.from) })
	for i := 1; i < len(l); i++ {
		if l[i].from < l[i-1].to {
			t.Fatalf("shared memory in %v", values)
		}
	}
}

// roomy returns x with spare capacity everywhere, which is not zero, in memory of its own.
func roomy(x api.Inbox) api.Inbox {
	y := api.Inbox{Window: x.Window}
	for _, s := range x.L {
		var held []api.Message
		for _, m := range s.Held {
			held = append(held, roomyMessage(m))
		}
		s.Held = append(held, roomyMessage(source("SPR", 1)))[:len(held)]
		y.L = append(y.L, s)
	}
	y.L = append(y.L, api.Sender{Port: "SPR", Next: 7, Held: []api.Message{source("SPR", 8)}})[:len(y.L)]
	return y
}

func roomyMessage(m api.Message) api.Message {
	n, k := len(m.Onward), len(m.List)
	m.Onward = append(slices.Clone(m.Onward), home)[:n]
	m.List = append(slices.Clone(m.List), 99)[:k]
	return m
}

// whole returns x with its spare capacity as elements.
func whole(x api.Inbox) api.Inbox {
	y := api.Inbox{Window: x.Window}
	for _, s := range x.L[:cap(x.L)] {
		var held []api.Message
		for _, m := range s.Held[:cap(s.Held)] {
			held = append(held, wholeMessage(m))
		}
		s.Held = held
		y.L = append(y.L, s)
	}
	return y
}

func wholeMessage(m api.Message) api.Message {
	m.Onward = slices.Clone(m.Onward[:cap(m.Onward)])
	m.List = slices.Clone(m.List[:cap(m.List)])
	return m
}

func TestMemory(t *testing.T) { // rule 2
	x := take(t, open(t, 8), "ARN", step{2, api.RecvHeld, nil}, step{3, api.RecvHeld, nil}, step{5, api.RecvHeld, nil}, step{6, api.RecvHeld, nil}, step{7, api.RecvHeld, nil})
	x = take(t, x, "CPH", step{1, api.RecvAccepted, []int{1}}, step{4, api.RecvHeld, nil}, step{3, api.RecvHeld, nil}, step{5, api.RecvHeld, nil})
	x = roomy(x)
	before := whole(x)
	for _, port := range []string{"AAA", "ARN", "CPH", "ZZZ"} {
		for n := range 20 {
			for _, m := range []api.Message{note(port, n), source(port, n), boarding(port, n)} {
				m = roomyMessage(m)
				given := wholeMessage(m)
				y, l, _, _ := Receive(x, m)
				z, k, _, _ := Receive(x, m)
				checkApart(t, x, m, y, l, z, k)
				if !message.Same(wholeMessage(m), given) {
					t.Fatal(m)
				}
			}
		}
		y, l, _ := Skip(x, port)
		z, k, _ := Skip(x, port)
		checkApart(t, x, y, l, z, k, Missing(x, port), Missing(x, port))
	}
	if !sameInbox(whole(x), before) {
		t.Error(x)
	}
}

func TestNilAndEmptySlicesAreTheSame(t *testing.T) { // rule 2
	x := take(t, open(t, 4), "ARN", step{2, api.RecvHeld, nil})
	m := note("ARN", 2)
	m.Onward, m.List = []api.Leg{}, []int{}
	x.L[0].Held[0] = note("ARN", 2)
	if _, _, what, e := Receive(x, m); e != api.OK || what != api.RecvRepeated {
		t.Error(what, e)
	}
	empty := api.Inbox{Window: 4, L: []api.Sender{{Port: "ARN", Next: 3, Held: []api.Message{}}}}
	if len(Missing(empty, "ARN")) != 0 {
		t.Error("missing")
	}
	if _, _, e := Skip(empty, "ARN"); e != api.ErrMissing {
		t.Error(e)
	}
	if y, _, what, e := Receive(api.Inbox{Window: 4, L: []api.Sender{}}, note("ARN", 1)); e != api.OK || what != api.RecvAccepted || len(y.L) != 1 {
		t.Error(y, what, e)
	}
}

// Nothing is specified for inboxes that do not come from this package, but the functions return also for them.
func TestInboxesFromElsewhere(t *testing.T) { // rule 1
	ends := []int{math.MinInt, -1, 0, 1, 9999, math.MaxInt}
	for _, next := range ends {
		for _, n := range ends {
			for _, window := range ends {
				bad := note("ARN", n)
				for _, l := range [][]api.Sender{
					nil,
					{{Port: "ARN", Next: next, Held: []api.Message{bad}}},
					{{Port: "ARN", Next: next}, {Port: "ARN", Next: next, Held: []api.Message{bad, bad, {}}}},
					{{Port: "OSL"}, {Port: "ARN", Next: next, Held: []api.Message{{}, bad}}, {Port: "\xff"}, {}},
					make([]api.Sender, 100),
				} {
					x := api.Inbox{Window: window, L: l}
					for _, port := range []string{"ARN", "OSL", "", "\xff"} {
						Missing(x, port)
						Skip(x, port)
						Receive(x, note(port, 1))
						Receive(x, note(port, n))
					}
				}
			}
		}
	}
}
