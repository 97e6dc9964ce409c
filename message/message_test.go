package message

import (
	"math"
	"reflect"
	"slices"
	"strings"
	"testing"

	"baggage/api"
	"baggage/plate"
)

var (
	home     = leg("SK", 123, "", 7, "CPH", "Y")
	inbound  = leg("4U", 9999, "Z", 99, "OSL", "F")
	further  = leg("A9", 1, "", 0, "AAA", "C")
	bagPlate = api.Plate{Airline: 117, Serial: 5}
	lastBag  = api.Plate{Lead: 9, Airline: 999, Serial: 999999}
	longest  = strings.Repeat("Z", api.MaxPart)
)

func leg(carrier string, number int, suffix string, day int, port, class string) api.Leg {
	return api.Leg{Flight: api.Flight{Carrier: carrier, Number: number, Suffix: suffix, Day: day}, Port: port, Class: class}
}

// source, transfer, processed, unload and boarding return a valid message of each kind.
func source() api.Message {
	return api.Message{Kind: api.MsgSource, Port: "ARN", Number: 12, Out: home, First: bagPlate, Count: 2, Load: true, Status: api.PaxChecked, Sequence: 31, Weight: 5, Surname: "DOE"}
}

func transfer() api.Message {
	return api.Message{Kind: api.MsgTransfer, Do: api.DoUpdate, Port: "OSL", Number: api.MaxNumber, In: inbound, Out: home, Onward: []api.Leg{further, inbound}, First: lastBag, Count: api.MaxRun, Status: api.PaxBoarded, Sequence: api.MaxSequence, Weight: api.MaxWeight, Surname: longest, Given: longest, Exception: api.ExcRush}
}

func processed() api.Message {
	return api.Message{Kind: api.MsgProcessed, Port: "ARN", Number: 3, First: bagPlate, Count: 1, Node: "CHUTE7"}
}

func unload() api.Message {
	return api.Message{Kind: api.MsgUnload, Port: "ZZZ", Number: 1, Out: further, First: bagPlate, Count: 10}
}

func boarding() api.Message {
	return api.Message{Kind: api.MsgBoarding, Port: "ARN", Number: 100, Out: home, List: []int{1, 2, 9, 10, 99, 100, 101, 998, api.MaxSequence}}
}

func each() []api.Message {
	return []api.Message{source(), transfer(), processed(), unload(), boarding()}
}

// numbers returns the numbers from first on.
func numbers(first, n int) []int {
	var l []int
	for i := range n {
		l = append(l, first+i)
	}
	return l
}

// wrong is a change of a message that breaks one rule.
type wrong struct {
	name string
	set  func(*api.Message)
	e    api.Errno
}

// checkWrong breaks a rule of a valid message.
func checkWrong(t *testing.T, m api.Message, c wrong) {
	t.Helper()
	c.set(&m)
	if e := Validate(m); e != c.e {
		t.Errorf("kind %d, %s: Validate is %d, not %d", m.Kind, c.name, e, c.e)
	}
	x, e := Encode(m)
	if e != c.e || (e != api.OK) != (x.Kind == "") || e != api.OK && (x.Change != "" || len(x.Elements) > 0) {
		t.Errorf("kind %d, %s: Encode is %v, %d, not %d", m.Kind, c.name, x, e, c.e)
	}
}

func TestValidMessages(t *testing.T) { // P4.1
	for _, m := range each() {
		checkWrong(t, m, wrong{"nothing", func(*api.Message) {}, api.OK})
	}
}

func TestKindsThatDoNotExist(t *testing.T) { // P4.1
	for _, kind := range []int{0, -1, 6, 7, math.MinInt, math.MaxInt} {
		for _, m := range append(each(), api.Message{}) {
			checkWrong(t, m, wrong{"kind", func(m *api.Message) { m.Kind = kind }, api.ErrKind})
		}
	}
}

// fields has for each kind the names of its fields, as the chapter lists them.
var fields = map[int]string{
	api.MsgSource:    "Do Out Onward First Count Load Status Sequence Weight Surname Given Exception",
	api.MsgTransfer:  "In Do Out Onward First Count Load Status Sequence Weight Surname Given Exception",
	api.MsgProcessed: "First Count Node",
	api.MsgUnload:    "Out First Count",
	api.MsgBoarding:  "Out List",
}

// most returns a message in which no field is zero.
func most() api.Message {
	m := transfer()
	m.Load, m.Node, m.List = true, "N1", []int{1}
	return m
}

func TestFieldsThatTheKindDoesNotHave(t *testing.T) { // P4.1
	values := reflect.ValueOf(most())
	for _, m := range each() {
		for i := range values.NumField() {
			name := values.Type().Field(i).Name
			if slices.Contains(strings.Fields("Kind Port Number "+fields[m.Kind]), name) {
				continue
			}
			set := func(m *api.Message) { reflect.ValueOf(m).Elem().Field(i).Set(values.Field(i)) }
			checkWrong(t, m, wrong{name, set, api.ErrState})
			checkWrong(t, m, wrong{name + " with all else wrong", func(m *api.Message) { *m = api.Message{Kind: m.Kind, Number: -1}; set(m) }, api.ErrState})
		}
	}
}

func TestAnyPartOfAFieldThatTheKindDoesNotHave(t *testing.T) { // P4.1
	for _, c := range []wrong{
		{"carrier", func(m *api.Message) { m.In.Flight.Carrier = "\x00" }, api.ErrState},
		{"flight number", func(m *api.Message) { m.In.Flight.Number = math.MinInt }, api.ErrState},
		{"suffix", func(m *api.Message) { m.In.Flight.Suffix = " " }, api.ErrState},
		{"day", func(m *api.Message) { m.In.Flight.Day = -1 }, api.ErrState},
		{"port", func(m *api.Message) { m.In.Port = "x" }, api.ErrState},
		{"class", func(m *api.Message) { m.In.Class = "x" }, api.ErrState},
		{"node", func(m *api.Message) { m.Node = "\xff" }, api.ErrState},
		{"list of 0", func(m *api.Message) { m.List = []int{0} }, api.ErrState},
		{"long list", func(m *api.Message) { m.List = make([]int, api.MaxBoarded+1) }, api.ErrState},
		{"empty list", func(m *api.Message) { m.List = []int{} }, api.OK},
	} {
		checkWrong(t, source(), c)
	}
	for _, c := range []wrong{
		{"lead", func(m *api.Message) { m.First.Lead = -1 }, api.ErrState},
		{"airline", func(m *api.Message) { m.First.Airline = -1 }, api.ErrState},
		{"serial", func(m *api.Message) { m.First.Serial = -1 }, api.ErrState},
		{"count", func(m *api.Message) { m.Count = math.MinInt }, api.ErrState},
		{"zero leg", func(m *api.Message) { m.Onward = make([]api.Leg, 1) }, api.ErrState},
		{"too many legs", func(m *api.Message) { m.Onward = make([]api.Leg, api.MaxOnward+1) }, api.ErrState},
		{"no legs", func(m *api.Message) { m.Onward = []api.Leg{} }, api.OK},
		{"do", func(m *api.Message) { m.Do = -1 }, api.ErrState},
		{"do", func(m *api.Message) { m.Do = math.MaxInt }, api.ErrState},
		{"exception", func(m *api.Message) { m.Exception = 99 }, api.ErrState},
	} {
		checkWrong(t, boarding(), c)
	}
}

func TestLimits(t *testing.T) { // P4.1
	for _, m := range []api.Message{source(), transfer()} {
		for n := range 7 {
			e := api.OK
			if n > api.MaxOnward {
				e = api.ErrLimit
			}
			checkWrong(t, m, wrong{"onward", func(m *api.Message) { m.Onward = slices.Repeat([]api.Leg{further}, n) }, e})
		}
		checkWrong(t, m, wrong{"onward", func(m *api.Message) { m.Onward = make([]api.Leg, 100000) }, api.ErrLimit})
	}
	for n := range 100 {
		e := api.OK
		if n > api.MaxBoarded {
			e = api.ErrLimit
		}
		checkWrong(t, boarding(), wrong{"list", func(m *api.Message) { m.List = numbers(900, n) }, e})
	}
	checkWrong(t, boarding(), wrong{"list", func(m *api.Message) { m.List = make([]int, 1000000) }, api.ErrLimit})
}

// badLegs returns legs of which one part is not valid.
func badLegs() []api.Leg {
	l := []api.Leg{{}, {Port: "ARN", Class: "Y"}}
	for _, set := range []func(*api.Leg){
		func(g *api.Leg) { g.Flight.Carrier = "12" },
		func(g *api.Leg) { g.Flight.Number = 0 },
		func(g *api.Leg) { g.Flight.Number = 10000 },
		func(g *api.Leg) { g.Flight.Suffix = "a" },
		func(g *api.Leg) { g.Flight.Day = -1 },
		func(g *api.Leg) { g.Flight.Day = api.MaxDay + 1 },
		func(g *api.Leg) { g.Port = "cph" },
		func(g *api.Leg) { g.Class = "Z" },
		func(g *api.Leg) { g.Class = "" },
	} {
		g := home
		set(&g)
		l = append(l, g)
	}
	return l
}

func TestLegs(t *testing.T) { // P4.1
	for _, g := range badLegs() {
		for _, m := range each() {
			if m.Kind != api.MsgProcessed {
				checkWrong(t, m, wrong{"out", func(m *api.Message) { m.Out = g }, api.ErrSyntax})
			}
		}
		if g != (api.Leg{}) {
			checkWrong(t, source(), wrong{"in", func(m *api.Message) { m.In = g }, api.ErrState})
		}
		checkWrong(t, transfer(), wrong{"in", func(m *api.Message) { m.In = g }, api.ErrSyntax})
		for i := range api.MaxOnward {
			onward := slices.Repeat([]api.Leg{further}, api.MaxOnward)
			onward[i] = g
			checkWrong(t, source(), wrong{"onward", func(m *api.Message) { m.Onward = onward }, api.ErrSyntax})
			checkWrong(t, transfer(), wrong{"onward", func(m *api.Message) { m.Onward = onward[:i+1] }, api.ErrSyntax})
		}
	}
}

func TestPorts(t *testing.T) { // P4.1
	for _, m := range each() {
		for _, s := range []string{"", "A", "AR", "ARNX", "arn", "AR1", "A N", "AR\xff", "1LARN", "\xc3\x85A"} {
			checkWrong(t, m, wrong{"port " + s, func(m *api.Message) { m.Port = s }, api.ErrSyntax})
		}
		checkWrong(t, m, wrong{"port", func(m *api.Message) { m.Port = "AZM" }, api.OK})
	}
}

func TestSurnamesAndGivenNames(t *testing.T) { // P4.1
	for _, m := range []api.Message{source(), transfer()} {
		for c := range 256 {
			s := string([]byte{byte(c)})
			e := api.ErrSyntax
			if c >= 'A' && c <= 'Z' {
				e = api.OK
			}
			for _, s := range []string{s, "A" + s, s + "Z", "DO" + s + "E", longest[1:] + s} {
				checkWrong(t, m, wrong{"surname " + s, func(m *api.Message) { m.Surname = s }, e})
				checkWrong(t, m, wrong{"given " + s, func(m *api.Message) { m.Given = s }, e})
			}
		}
		checkWrong(t, m, wrong{"no surname", func(m *api.Message) { m.Surname = "" }, api.ErrSyntax})
		checkWrong(t, m, wrong{"no given name", func(m *api.Message) { m.Given = "" }, api.OK})
		for n := range 50 {
			e := api.OK
			if n >= api.MaxPart {
				e = api.ErrSyntax
			}
			s := strings.Repeat("A", n+1)
			checkWrong(t, m, wrong{"surname " + s, func(m *api.Message) { m.Surname = s }, e})
			checkWrong(t, m, wrong{"given " + s, func(m *api.Message) { m.Given = s }, e})
		}
	}
}

func checkName(t *testing.T, s string, want bool) {
	t.Helper()
	if got := ValidName(s); got != want {
		t.Errorf("ValidName(%q) is %v", s, got)
	}
	e := api.OK
	if !want {
		e = api.ErrSyntax
	}
	checkWrong(t, processed(), wrong{"node " + s, func(m *api.Message) { m.Node = s }, e})
}

func TestNames(t *testing.T) { // P4.1
	for c := range 256 {
		s := string([]byte{byte(c)})
		letter := c >= 'A' && c <= 'Z'
		digit := c >= '0' && c <= '9'
		checkName(t, s, letter)
		checkName(t, s+"1", letter)
		for _, s := range []string{"A" + s, "A" + s + "9", "ZZ1" + s, "ABCDEFGHIJK" + s} {
			checkName(t, s, letter || digit)
		}
	}
	checkName(t, "", false)
	for n := range 40 {
		checkName(t, "A"+strings.Repeat("0", n), n < api.MaxName)
		checkName(t, strings.Repeat("1", n), false)
	}
}

func TestRanges(t *testing.T) { // P4.1
	passenger := []api.Message{source(), transfer()}
	plated := []api.Message{source(), transfer(), processed(), unload()}
	for _, c := range []struct {
		name        string
		l           []api.Message
		set         func(*api.Message, int)
		least, most int
	}{
		{"number", each(), func(m *api.Message, n int) { m.Number = n }, 1, 9999},
		{"count", plated, func(m *api.Message, n int) { m.Count = n }, 1, 99},
		{"lead", plated, func(m *api.Message, n int) { m.First.Lead = n }, 0, 9},
		{"airline", plated, func(m *api.Message, n int) { m.First.Airline = n }, 1, 999},
		{"serial", plated, func(m *api.Message, n int) { m.First.Serial = n }, 0, 999999},
		{"do", passenger, func(m *api.Message, n int) { m.Do = n }, 0, 2},
		{"status", passenger, func(m *api.Message, n int) { m.Status = n }, 1, 4},
		{"sequence", passenger, func(m *api.Message, n int) { m.Sequence = n }, 1, 999},
		{"weight", passenger, func(m *api.Message, n int) { m.Weight = n }, 0, 999},
		{"exception", passenger, func(m *api.Message, n int) { m.Exception = n }, 0, 3},
		{"only passenger", []api.Message{boarding()}, func(m *api.Message, n int) { m.List = []int{n} }, 1, 999},
		{"last passenger", []api.Message{boarding()}, func(m *api.Message, n int) { m.List = []int{1, 2, n} }, 3, 999},
	} {
		for _, m := range c.l {
			for _, n := range []int{c.least, c.least + 1, c.most - 1, c.most} {
				checkWrong(t, m, wrong{c.name, func(m *api.Message) { c.set(m, n) }, api.OK})
			}
			for _, n := range []int{c.most + 1, math.MaxInt, math.MinInt, -1, min(c.least, 1) - 1} {
				checkWrong(t, m, wrong{c.name, func(m *api.Message) { c.set(m, n) }, api.ErrRange})
			}
		}
	}
}

func TestOrderOfTheList(t *testing.T) { // P4.1
	for _, c := range []struct {
		l []int
		e api.Errno
	}{
		{nil, api.OK}, {[]int{}, api.OK}, {[]int{1}, api.OK}, {[]int{999}, api.OK}, {[]int{1, 2}, api.OK}, {[]int{1, 999}, api.OK}, {[]int{1, 500, 501}, api.OK}, {numbers(960, 40), api.OK},
		{[]int{1, 1}, api.ErrOrder}, {[]int{2, 1}, api.ErrOrder}, {[]int{999, 1}, api.ErrOrder}, {[]int{1, 2, 2}, api.ErrOrder}, {[]int{1, 3, 2}, api.ErrOrder}, {[]int{2, 1, 3}, api.ErrOrder},
		{[]int{1, 1, 2, 3}, api.ErrOrder}, {append(numbers(1, 39), 39), api.ErrOrder}, {append(numbers(1, 39), 1), api.ErrOrder},
		// all numbers come before the order
		{[]int{0, 1}, api.ErrRange}, {[]int{1, 0}, api.ErrRange}, {[]int{1, 1000}, api.ErrRange}, {[]int{3, 2, 1000}, api.ErrRange}, {[]int{5, 5, -1}, api.ErrRange}, {[]int{math.MaxInt, math.MinInt}, api.ErrRange}, {[]int{math.MinInt, 1}, api.ErrRange},
	} {
		checkWrong(t, boarding(), wrong{"list", func(m *api.Message) { m.List = c.l }, c.e})
	}
}

func TestOrderOfTheErrors(t *testing.T) { // P4.1
	breaks := map[int][]wrong{
		api.MsgTransfer: {
			{"node", func(m *api.Message) { m.Node = "A" }, api.ErrState},
			{"list", func(m *api.Message) { m.List = []int{2, 1} }, api.ErrState},
			{"onward", func(m *api.Message) { m.Onward = make([]api.Leg, 4) }, api.ErrLimit},
			{"port", func(m *api.Message) { m.Port = "" }, api.ErrSyntax},
			{"in", func(m *api.Message) { m.In = api.Leg{} }, api.ErrSyntax},
			{"out", func(m *api.Message) { m.Out = api.Leg{} }, api.ErrSyntax},
			{"surname", func(m *api.Message) { m.Surname = "" }, api.ErrSyntax},
			{"given", func(m *api.Message) { m.Given = " " }, api.ErrSyntax},
			{"number", func(m *api.Message) { m.Number = 0 }, api.ErrRange},
			{"do", func(m *api.Message) { m.Do = 3 }, api.ErrRange},
			{"first", func(m *api.Message) { m.First = api.Plate{} }, api.ErrRange},
			{"count", func(m *api.Message) { m.Count = 0 }, api.ErrRange},
			{"status", func(m *api.Message) { m.Status = api.PaxOffloaded }, api.ErrRange},
			{"sequence", func(m *api.Message) { m.Sequence = 0 }, api.ErrRange},
			{"weight", func(m *api.Message) { m.Weight = -1 }, api.ErrRange},
			{"exception", func(m *api.Message) { m.Exception = 4 }, api.ErrRange},
		},
		api.MsgProcessed: {
			{"do", func(m *api.Message) { m.Do = 3 }, api.ErrState},
			{"out", func(m *api.Message) { m.Out = home }, api.ErrState},
			{"onward", func(m *api.Message) { m.Onward = make([]api.Leg, 4) }, api.ErrState},
			{"port", func(m *api.Message) { m.Port = "" }, api.ErrSyntax},
			{"node", func(m *api.Message) { m.Node = "" }, api.ErrSyntax},
			{"number", func(m *api.Message) { m.Number = 0 }, api.ErrRange},
			{"count", func(m *api.Message) { m.Count = 100 }, api.ErrRange},
		},
		api.MsgBoarding: {
			{"count", func(m *api.Message) { m.Count = 1 }, api.ErrState},
			{"load", func(m *api.Message) { m.Load = true }, api.ErrState},
			{"long list", func(m *api.Message) { m.List = make([]int, 41) }, api.ErrLimit},
			{"out", func(m *api.Message) { m.Out.Class = "" }, api.ErrSyntax},
			{"number", func(m *api.Message) { m.Number = 10000 }, api.ErrRange},
			{"list", func(m *api.Message) { m.List = append(m.List, 1) }, api.ErrOrder},
		},
	}
	for _, m := range each() {
		l := breaks[m.Kind]
		for i, a := range l {
			for _, b := range l[i:] {
				set := func(m *api.Message) { b.set(m); a.set(m) }
				checkWrong(t, m, wrong{a.name + " before " + b.name, set, a.e})
				checkWrong(t, m, wrong{"kind before " + b.name, func(m *api.Message) { set(m); m.Kind = 6 }, api.ErrKind})
			}
		}
	}
}

func TestPlates(t *testing.T) { // P4.3
	for _, c := range []struct {
		p     api.Plate
		count int
		want  []string
	}{
		{bagPlate, 1, []string{"0117000005"}},
		{bagPlate, 3, []string{"0117000005", "0117000006", "0117000007"}},
		{lastBag, 2, []string{"9999999999", "9999000000"}},
		{bagPlate, 0, nil}, {bagPlate, -1, nil}, {bagPlate, 100, nil}, {bagPlate, math.MaxInt, nil}, {bagPlate, math.MinInt, nil},
		{api.Plate{}, 1, nil}, {api.Plate{Lead: 10, Airline: 1}, 1, nil}, {api.Plate{Airline: 1, Serial: -1}, 2, nil},
	} {
		for kind := range 7 { // also of messages that are not valid
			var got []string
			for _, p := range Plates(api.Message{Kind: kind, First: c.p, Count: c.count}) {
				got = append(got, plate.Format(p))
			}
			if !slices.Equal(got, c.want) {
				t.Errorf("%d plates from %v on are %q", c.count, c.p, got)
			}
		}
	}
	m := source()
	m.Count = api.MaxRun
	if l := Plates(m); len(l) != api.MaxRun || l[98] != (api.Plate{Airline: 117, Serial: 103}) {
		t.Error(l)
	}
	if l := Plates(boarding()); len(l) > 0 {
		t.Error(l)
	}
	if l := Plates(api.Message{}); len(l) > 0 {
		t.Error(l)
	}
}

// changed returns values that differ from v in one place each.
func changed(v reflect.Value) []reflect.Value {
	var l []reflect.Value
	add := func() reflect.Value {
		x := reflect.New(v.Type()).Elem()
		x.Set(v)
		l = append(l, x)
		return x
	}
	switch v.Kind() {
	case reflect.Int:
		add().SetInt(v.Int() + 1)
		add().SetInt(-v.Int() - 1)
	case reflect.Bool:
		add().SetBool(!v.Bool())
	case reflect.String:
		add().SetString(v.String() + "A")
		add().SetString(v.String() + "\x00")
		add().SetString("\xff" + v.String())
	case reflect.Struct:
		for i := range v.NumField() {
			for _, f := range changed(v.Field(i)) {
				add().Field(i).Set(f)
			}
		}
	case reflect.Slice:
		zero := reflect.Zero(v.Type().Elem())
		add().Set(reflect.Append(v.Slice3(0, v.Len(), v.Len()), zero))
		for i := range v.Len() {
			for _, f := range changed(v.Index(i)) {
				x := add()
				x.Set(reflect.AppendSlice(reflect.Zero(v.Type()), v))
				x.Index(i).Set(f)
			}
		}
		if v.Len() > 0 {
			add().Set(v.Slice(0, v.Len()-1))
			add().Set(v.Slice(1, v.Len()))
		}
	}
	return l
}

func TestSame(t *testing.T) { // P4.3
	l := append(each(), api.Message{}, most())
	for i, a := range l {
		for k, b := range l {
			if got := Same(a, b); got != (i == k) {
				t.Errorf("Same(%v, %v) is %v", a, b, got)
			}
		}
		others := changed(reflect.ValueOf(a))
		if len(others) < 40 {
			t.Errorf("%d changes", len(others))
		}
		for _, x := range others {
			b := x.Interface().(api.Message)
			if Same(a, b) || Same(b, a) || !Same(b, b) {
				t.Errorf("Same(%v, %v)", a, b)
			}
		}
	}
	again := each()
	for i, m := range each() {
		if !Same(m, again[i]) {
			t.Errorf("%v is not the same as itself", m)
		}
	}
}

func TestNilAndEmptySlicesAreTheSame(t *testing.T) { // P4.3, rule 2
	for _, m := range each() {
		a, b := m, m
		a.Onward, a.List, b.Onward, b.List = nil, nil, []api.Leg{}, []int{}
		if !Same(a, b) || !Same(b, a) || Validate(a) != Validate(b) {
			t.Errorf("kind %d", m.Kind)
		}
	}
}

func TestArgumentsAreKept(t *testing.T) { // rule 2
	onward := []api.Leg{further, inbound, home}
	list := []int{3, 4, 5}
	m := source()
	m.Onward = onward[:1]
	b := boarding()
	b.List = list[:1]
	for _, m := range []api.Message{m, b} {
		Validate(m)
		Encode(m)
		Plates(m)
		Same(m, m)
	}
	if !slices.Equal(onward, []api.Leg{further, inbound, home}) || !slices.Equal(list, []int{3, 4, 5}) {
		t.Error(onward, list)
	}
}
