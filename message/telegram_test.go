package message

import (
	"regexp"
	"slices"
	"strconv"
	"strings"
	"testing"

	"baggage/api"
	"baggage/telegram"
)

func lines(l ...string) string { return strings.Join(l, "\n") + "\n" }

// with returns a message with a change.
func with(m api.Message, set func(*api.Message)) api.Message {
	set(&m)
	return m
}

// texts has valid messages and the texts of their telegrams.
func texts() map[string]api.Message {
	z := strings.Repeat("Z", 20)
	return map[string]api.Message{
		lines("BSM", ".V/1LARN/12", ".F/SK0123/07/CPH/Y", ".N/0117000005/002", ".S/Y/C/031", ".W/K/5", ".P/DOE/", "ENDBSM"):                                                                                               source(),
		lines("BTM", "CHG", ".V/1LOSL/9999", ".I/4U9999Z/99/OSL/F", ".F/SK0123/07/CPH/Y", ".O/A90001/00/AAA/C", ".O/4U9999Z/99/OSL/F", ".N/9999999999/099", ".S/N/B/999", ".W/K/999", ".P/"+z+"/"+z, ".X/RUSH", "ENDBTM"): transfer(),
		lines("BPM", ".V/1LARN/3", ".N/0117000005/001", ".J/CHUTE7", "ENDBPM"):                                                                                                                                            processed(),
		lines("BUM", ".V/1LZZZ/1", ".F/A90001/00/AAA/C", ".N/0117000005/010", "ENDBUM"):                                                                                                                                   unload(),
		lines("BBM", ".V/1LARN/100", ".F/SK0123/07/CPH/Y", ".B/001/002/009/010/099/100/101/998", ".B/999", "ENDBBM"):                                                                                                      boarding(),
		lines("BBM", ".V/1LARN/100", ".F/SK0123/07/CPH/Y", "ENDBBM"):                                                                                                                                                      with(boarding(), func(m *api.Message) { m.List = nil }),
		lines("BBM", ".V/1LARN/100", ".F/SK0123/07/CPH/Y", ".B/007", "ENDBBM"):                                                                                                                                            with(boarding(), func(m *api.Message) { m.List = []int{7} }),
		lines("BBM", ".V/1LARN/100", ".F/SK0123/07/CPH/Y", ".B/001/002/003/004/005/006/007/008", "ENDBBM"):                                                                                                                with(boarding(), func(m *api.Message) { m.List = numbers(1, 8) }),
		lines("BBM", ".V/1LARN/100", ".F/SK0123/07/CPH/Y", ".B/001/002/003/004/005/006/007/008", ".B/009/010/011/012/013/014/015/016", ".B/017", "ENDBBM"):                                                                with(boarding(), func(m *api.Message) { m.List = numbers(1, 17) }),
		lines("BSM", "DEL", ".V/1LARN/12", ".F/SK0123/07/CPH/Y", ".O/SK0123/07/CPH/Y", ".O/A90001/00/AAA/C", ".O/SK0123/07/CPH/Y", ".N/0117000005/002", ".S/N/S/100", ".W/K/0", ".P/A/JAN", ".X/CREW", "ENDBSM"):          deleted(),
		lines("BTM", ".V/1LARN/1000", ".I/SK0123/07/CPH/Y", ".F/SK0123/07/CPH/Y", ".N/0117000005/001", ".S/Y/N/010", ".W/K/10", ".P/DOE/J", ".X/CARGO", "ENDBTM"):                                                         fresh(),
		lines("BSM", "CHG", ".V/1LARN/12", ".F/SK0123/07/CPH/Y", ".N/0117000005/002", ".S/Y/C/031", ".W/K/5", ".P/DOE/", "ENDBSM"):                                                                                        with(source(), func(m *api.Message) { m.Do = api.DoUpdate }),
		lines("BPM", ".V/1LARN/3", ".N/0117000005/099", ".J/ABCDEFGHIJ12", "ENDBPM"):                                                                                                                                      with(processed(), func(m *api.Message) { m.Count, m.Node = 99, "ABCDEFGHIJ12" }),
	}
}

func deleted() api.Message {
	m := source()
	m.Do, m.Onward = api.DoDelete, []api.Leg{home, further, home}
	m.Load, m.Status, m.Sequence, m.Weight = false, api.PaxStandby, 100, 0
	m.Surname, m.Given, m.Exception = "A", "JAN", api.ExcCrew
	return m
}

func fresh() api.Message {
	m := transfer()
	m.Do, m.Port, m.Number, m.In, m.Onward = api.DoNew, "ARN", 1000, home, nil
	m.First, m.Count, m.Load, m.Status, m.Sequence, m.Weight = bagPlate, 1, true, api.PaxAbsent, 10, 10
	m.Surname, m.Given, m.Exception = "DOE", "J", api.ExcCargo
	return m
}

func TestTelegramsOfMessages(t *testing.T) { // P4.2
	for s, m := range texts() {
		x, e := Encode(m)
		if text, f := telegram.Format(x); text != s || e != api.OK || f != api.OK {
			t.Errorf("Encode gives %q, %d, %d, not %q", text, e, f, s)
		}
		x, _, e = telegram.Parse(s)
		if e != api.OK {
			t.Errorf("%q is no text: %d", s, e)
		}
		if got, e := Decode(x); !Same(got, m) || e != api.OK {
			t.Errorf("Decode(%q) is %v, %d", s, got, e)
		}
	}
}

// checkDecode expects an error and nothing else.
func checkDecode(t *testing.T, x api.Telegram, want api.Errno) {
	t.Helper()
	if m, e := Decode(x); e != want || !Same(m, api.Message{}) {
		t.Errorf("Decode(%.200q) is %v, %d, not %d", x, m, e, want)
	}
}

func TestTelegramsOfOtherKinds(t *testing.T) { // P4.2
	for s := range texts() {
		x, _, _ := telegram.Parse(s)
		for _, kind := range []string{"", "B", "BS", "BXM", "bsm", "BSMX", " BSM", "BSM ", "BSM\x00", "RUSH", "CHG", "C", "\xff"} {
			x.Kind = kind
			checkDecode(t, x, api.ErrKind)
			checkDecode(t, api.Telegram{Kind: kind}, api.ErrKind)
			checkDecode(t, api.Telegram{Kind: kind, Change: "?", Elements: []api.Element{{}}}, api.ErrKind)
		}
	}
}

func TestChangesThatDoNotFit(t *testing.T) { // P4.2
	for s, m := range texts() {
		x, _, _ := telegram.Parse(s)
		for _, change := range []string{"NEW", "chg", "CHGDEL", "CH", "DEL ", "BSM", "C", "RUSH", "\x00"} {
			x.Change = change
			checkDecode(t, x, api.ErrSyntax)
		}
		if m.Kind > api.MsgTransfer {
			x.Change = "CHG"
			checkDecode(t, x, api.ErrSyntax)
			x.Change = "DEL"
			checkDecode(t, x, api.ErrSyntax)
		}
	}
}

// The forms of the lines, as the chapter describes them.
const (
	legForm      = `([A-Z][A-Z0-9]|[0-9][A-Z])(000[1-9]|00[1-9][0-9]|0[1-9][0-9]{2}|[1-9][0-9]{3})[A-Z]?/[0-9]{2}/[A-Z]{3}/[FCY]\n`
	senderForm   = `\.V/1L[A-Z]{3}/[1-9][0-9]{0,3}\n`
	platesForm   = `\.N/[0-9](00[1-9]|0[1-9][0-9]|[1-9][0-9]{2})[0-9]{6}/0(0[1-9]|[1-9][0-9])\n`
	threeForm    = `(00[1-9]|0[1-9][0-9]|[1-9][0-9]{2})`
	customerForm = `\.F/` + legForm + `(\.O/` + legForm + `){0,3}` + platesForm + `\.S/[YN]/[CSNB]/` + threeForm + `\n\.W/K/(0|[1-9][0-9]{0,2})\n\.P/[A-Z]{1,20}/[A-Z]{0,20}\n(\.X/(RUSH|CREW|CARGO)\n)?`
)

var forms = regexp.MustCompile(`^(` + strings.Join([]string{
	`BSM\n(CHG\n|DEL\n)?` + senderForm + customerForm + `ENDBSM`,
	`BTM\n(CHG\n|DEL\n)?` + senderForm + `\.I/` + legForm + customerForm + `ENDBTM`,
	`BPM\n` + senderForm + platesForm + `\.J/[A-Z][A-Z0-9]{0,11}\nENDBPM`,
	`BUM\n` + senderForm + `\.F/` + legForm + platesForm + `ENDBUM`,
	`BBM\n` + senderForm + `\.F/` + legForm + `(\.B(/` + threeForm + `){8}\n){0,4}(\.B(/` + threeForm + `){1,8}\n)?ENDBBM`,
}, "|") + `)\n$`)

// judge reports whether a text is that of the telegram of a valid message.
func judge(s string) bool {
	last := ""
	for line := range strings.Lines(s) {
		parts, isList := strings.CutPrefix(strings.TrimSuffix(line, "\n"), ".B/")
		for n := range strings.SplitSeq(parts, "/") {
			if isList && n <= last {
				return false
			}
			if isList {
				last = n
			}
		}
	}
	return forms.MatchString(s)
}

// checkText decodes the telegram with a text, if there is one, and reports whether it is that of a message.
func checkText(t *testing.T, s string) bool {
	t.Helper()
	x, _, e := telegram.Parse(s)
	if e != api.OK {
		return false
	}
	if !judge(s) {
		checkDecode(t, x, api.ErrSyntax)
		return false
	}
	m, e := Decode(x)
	if e != api.OK {
		t.Errorf("Decode(%q) is %d", s, e)
	}
	again, e := Encode(m)
	if text, _ := telegram.Format(again); text != s || e != api.OK || Validate(m) != api.OK {
		t.Errorf("Encode of Decode(%q) is %q, %d", s, text, e)
	}
	return true
}

func TestEachByteOfAText(t *testing.T) { // P4.2
	const alphabet = "ABCDEFGHIJKLMNOPQRSTUVWXYZ0123456789 -+/\n."
	good := 0
	for s := range texts() {
		for i := range len(s) {
			for c := range len(alphabet) {
				for _, s := range []string{s[:i] + alphabet[c:c+1] + s[i+1:], s[:i] + alphabet[c:c+1] + s[i:]} {
					if checkText(t, s) {
						good++
					}
				}
			}
			checkText(t, s[:i]+s[i+1:])
		}
	}
	if good < 10000 {
		t.Errorf("%d texts", good)
	}
}

func TestElementsElsewhere(t *testing.T) { // P4.2
	var all []string
	for s := range texts() {
		for line := range strings.Lines(s) {
			if line[0] == '.' && !slices.Contains(all, line) {
				all = append(all, line)
			}
		}
	}
	slices.Sort(all)
	for s := range texts() {
		l := slices.Collect(strings.Lines(s))
		for i := range l[:len(l)-1] {
			checkText(t, strings.Join(slices.Delete(slices.Clone(l), i, i+1), ""))
			for k := range i {
				swapped := slices.Clone(l)
				swapped[i], swapped[k] = swapped[k], swapped[i]
				checkText(t, strings.Join(swapped, ""))
			}
			for _, line := range all {
				checkText(t, strings.Join(slices.Insert(slices.Clone(l), i+1, line), ""))
				replaced := slices.Clone(l)
				replaced[i] = line
				checkText(t, strings.Join(replaced, ""))
			}
		}
	}
}

func TestPartsElsewhere(t *testing.T) { // P4.2
	for s := range texts() {
		whole, _, _ := telegram.Parse(s)
		for i, x := range whole.Elements {
			for k := range len(x.Parts) + 1 {
				for _, parts := range [][]string{
					slices.Insert(slices.Clone(x.Parts), k, ""),
					slices.Insert(slices.Clone(x.Parts), k, "A"),
					slices.Clone(x.Parts[:k]),
					slices.Clone(x.Parts[k:]),
				} {
					changed := whole
					changed.Elements = slices.Clone(whole.Elements)
					changed.Elements[i].Parts = parts
					// An element without parts has no text, and so is never one of a message.
					if text, e := telegram.Format(changed); e == api.OK && judge(text) {
						checkText(t, text)
						continue
					}
					checkDecode(t, changed, api.ErrSyntax)
				}
			}
		}
	}
}

func TestTelegramsThatOnlyLookRight(t *testing.T) { // P4.2
	s := lines("BTM", ".V/1LARN/12", ".I/SK0001/07/CPH/Y", ".F/SK0002/07/CPH/Y", ".O/SK0003/07/CPH/Y", ".N/0117000005/002", ".S/Y/C/031", ".W/K/5", ".P/DOE/JAN", ".X/CREW", "ENDBTM")
	good, _, _ := telegram.Parse(s)
	if _, e := Decode(good); e != api.OK {
		t.Fatal(e)
	}
	for _, c := range []struct {
		i int
		x api.Element
	}{
		{0, api.Element{Key: "V", Parts: []string{"1LARN/12"}}},
		{0, api.Element{Key: "V", Parts: []string{"ARN", "12"}}},
		{0, api.Element{Key: "V", Parts: []string{"1L1LARN", "12"}}},
		{0, api.Element{Key: "V", Parts: []string{"1lARN", "12"}}},
		{0, api.Element{Key: "V", Parts: []string{"1LARN", "12\n"}}},
		{0, api.Element{Key: "V", Parts: []string{"1LARN", "+12"}}},
		{0, api.Element{Key: "V", Parts: []string{"1LARN", "00000000000000000000012"}}},
		{0, api.Element{Key: "V", Parts: []string{"1LARN", "18446744073709551628"}}}, // 12 and 2 to the power of 64
		{0, api.Element{Key: "V", Parts: []string{"1LARN", "\xd9\xa1\xd9\xa2"}}},
		{0, api.Element{Key: ".V", Parts: []string{"1LARN", "12"}}},
		{0, api.Element{Key: "v", Parts: []string{"1LARN", "12"}}},
		{0, api.Element{Key: "", Parts: []string{"1LARN", "12"}}},
		{1, api.Element{Key: "I", Parts: []string{"SK0001/07", "CPH", "Y"}}},
		{1, api.Element{Key: "I", Parts: []string{"SK0001/07", "", "CPH", "Y"}}},
		{1, api.Element{Key: "I", Parts: []string{"", "SK0001/07", "CPH", "Y"}}},
		{1, api.Element{Key: "I", Parts: []string{"SK0001", "07", "CPH/Y"}}},
		{1, api.Element{Key: "I", Parts: []string{"SK0001", "07", "CPH", "Y", ""}}},
		{1, api.Element{Key: "I", Parts: []string{"SK0000", "07", "CPH", "Y"}}},
		{1, api.Element{Key: "I", Parts: []string{"SK0001", "7", "CPH", "Y"}}},
		{1, api.Element{Key: "I"}},
		{3, api.Element{Key: "O", Parts: []string{"SK0003", "07", "CPH", "Y", "SK0003", "07", "CPH", "Y"}}},
		{4, api.Element{Key: "N", Parts: []string{"117000005", "002"}}},
		{4, api.Element{Key: "N", Parts: []string{"0117000005", "2"}}},
		{4, api.Element{Key: "N", Parts: []string{"0117000005", "0002"}}},
		{4, api.Element{Key: "N", Parts: []string{"0117000005", "\x30\x30\xb2"}}},
		{4, api.Element{Key: "N", Parts: []string{"011700000?", "002"}}},
		{5, api.Element{Key: "S", Parts: []string{"y", "C", "031"}}},
		{5, api.Element{Key: "S", Parts: []string{"", "C", "031"}}},
		{5, api.Element{Key: "S", Parts: []string{"Y", "", "031"}}},
		{5, api.Element{Key: "S", Parts: []string{"Y", "RUSH", "031"}}},
		{5, api.Element{Key: "S", Parts: []string{"Y", "C", "-31"}}},
		{6, api.Element{Key: "W", Parts: []string{"K", "05"}}},
		{6, api.Element{Key: "W", Parts: []string{"K", ""}}},
		{6, api.Element{Key: "W", Parts: []string{"K"}}},
		{6, api.Element{Key: "W", Parts: []string{"", "5"}}},
		{6, api.Element{Key: "W", Parts: []string{"K", "-0"}}},
		{6, api.Element{Key: "W", Parts: []string{"K", "00"}}},
		{6, api.Element{Key: "W", Parts: []string{"K", "1000"}}},
		{7, api.Element{Key: "P", Parts: []string{"DOE/JAN"}}},
		{7, api.Element{Key: "P", Parts: []string{"DOE"}}},
		{7, api.Element{Key: "P", Parts: []string{"DOE", "jan"}}},
		{7, api.Element{Key: "P", Parts: []string{"DOE", strings.Repeat("A", 1000000)}}},
		{8, api.Element{Key: "X", Parts: []string{""}}},
		{8, api.Element{Key: "X", Parts: []string{"C"}}},
		{8, api.Element{Key: "X", Parts: []string{"CREW", ""}}},
		{8, api.Element{Key: "X", Parts: []string{"crew"}}},
		{8, api.Element{Key: "X"}},
		{8, api.Element{Key: "Q", Parts: []string{"CREW"}}},
		{8, api.Element{Key: "J", Parts: []string{"CREW"}}},
	} {
		x := good
		x.Elements = slices.Clone(good.Elements)
		x.Elements[c.i] = c.x
		checkDecode(t, x, api.ErrSyntax)
	}
}

func TestHugeTelegrams(t *testing.T) { // P4.2, rule 1
	some := api.Element{Key: "B", Parts: slices.Repeat([]string{"001"}, 100000)}
	leg := api.Element{Key: "O", Parts: []string{"SK0001", "07", "CPH", "Y"}}
	for _, kind := range []string{"BSM", "BTM", "BPM", "BUM", "BBM"} {
		checkDecode(t, api.Telegram{Kind: kind}, api.ErrSyntax)
		checkDecode(t, api.Telegram{Kind: kind, Elements: []api.Element{some}}, api.ErrSyntax)
		checkDecode(t, api.Telegram{Kind: kind, Elements: slices.Repeat([]api.Element{leg}, 100000)}, api.ErrSyntax)
		checkDecode(t, api.Telegram{Kind: kind, Elements: make([]api.Element, 100000)}, api.ErrSyntax)
		checkDecode(t, api.Telegram{Kind: kind, Change: strings.Repeat("C", 100000)}, api.ErrSyntax)
	}
}

func TestEachNumberOfPassengers(t *testing.T) { // P4.2
	for n := range api.MaxBoarded + 1 {
		m := boarding()
		m.List = numbers(500, n)
		x, _ := Encode(m)
		if want := 2 + (n+7)/8; len(x.Elements) != want {
			t.Errorf("%d passengers: %d elements, not %d", n, len(x.Elements), want)
		}
		var l []int
		for i, y := range x.Elements[2:] {
			if y.Key != "B" || len(y.Parts) != min(8, n-8*i) {
				t.Errorf("%d passengers: %v", n, y)
			}
			for _, part := range y.Parts {
				k, _ := strconv.Atoi(part)
				l = append(l, k)
			}
		}
		if got, e := Decode(x); !slices.Equal(l, m.List) || !Same(got, m) || e != api.OK {
			t.Errorf("%d passengers: %v, %v, %d", n, l, got, e)
		}
	}
	text := lines("BBM", ".V/1LARN/100", ".F/SK0123/07/CPH/Y", ".B/001/002/003/004/005/006/007", ".B/008", "ENDBBM")
	x, _, _ := telegram.Parse(text)
	checkDecode(t, x, api.ErrSyntax) // only the last element has less than 8 parts
	x.Elements = slices.Concat(x.Elements[:2], []api.Element{{Key: "B", Parts: []string{"001", "002", "003", "004", "005", "006", "007", "008", "009"}}})
	checkDecode(t, x, api.ErrSyntax)
}

func TestMessagesAndTelegramsCorrespond(t *testing.T) { // P4.2
	for n := range 9999 {
		m := transfer()
		m.Do, m.Load, m.Status, m.Exception = n%3, n%2 == 0, 1+n%4, n/2%4
		m.Number, m.Count, m.Sequence, m.Weight = 1+n, 1+n%99, 1+n%999, n%1000
		m.In.Flight.Number, m.Out.Flight.Day = 9999-n, n%100
		m.First = api.Plate{Lead: n % 10, Airline: 1 + n%999, Serial: n * 100}
		m.Onward = []api.Leg{home, further, inbound}[:n%4]
		x, e := Encode(m)
		if e != api.OK || telegram.Validate(x) != api.OK {
			t.Fatalf("Encode(%v) is %v, %d", m, x, e)
		}
		if got, e := Decode(x); !Same(got, m) || e != api.OK {
			t.Fatalf("Decode(%v) is %v, %d, not %v", x, got, e, m)
		}
	}
}

func TestResultsShareNoMemory(t *testing.T) { // P4.2, rule 2
	for s, m := range texts() {
		x, _ := Encode(m)
		y, _ := Encode(m)
		a, _ := Decode(y)
		b, _ := Decode(y)
		for i := range x.Elements {
			parts := x.Elements[i].Parts[:cap(x.Elements[i].Parts)]
			for k := range parts {
				parts[k] = "?"
			}
			for k := i + 1; k < len(x.Elements); k++ {
				if !slices.Equal(x.Elements[k].Parts, y.Elements[k].Parts) {
					t.Errorf("%q: %v after a change of element %d", s, x.Elements[k], i)
				}
			}
		}
		clear(x.Elements[:cap(x.Elements)])
		clear(a.Onward[:cap(a.Onward)])
		clear(a.List[:cap(a.List)])
		if text, _ := telegram.Format(y); text != s || !Same(b, m) {
			t.Errorf("%q is %q after a change", s, text)
		}
	}
}

func TestTelegramsAreKept(t *testing.T) { // P4.2, rule 2
	for s := range texts() {
		x, _, _ := telegram.Parse(s)
		for i := range x.Elements {
			parts := append(x.Elements[i].Parts, "spare")
			x.Elements[i].Parts = parts[:len(parts)-1]
		}
		spare := append(x.Elements, api.Element{Key: "Q"})
		x.Elements = spare[:len(spare)-1]
		Decode(x)
		for _, y := range x.Elements {
			if l := y.Parts[:len(y.Parts)+1]; l[len(l)-1] != "spare" {
				t.Errorf("%q: %v", s, l)
			}
		}
		if text, _ := telegram.Format(x); text != s || spare[len(spare)-1].Key != "Q" {
			t.Errorf("%q is %q now", s, text)
		}
	}
}
