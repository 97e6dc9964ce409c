package layout

import (
	"slices"
	"strconv"
	"strings"

	"baggage/api"
	"baggage/ascii"
	"baggage/message"
)

// What texts consist of, besides the words of the kinds, names and numbers.
const (
	space      = " "
	arrow      = ">"
	lineFeed   = "\n"
	mostNumber = 999
)

// devices is added to the kinds of devices where they stand together with those of nodes.
const devices = api.NodeManual

// words has the first word of the lines of each kind. 0 is no kind and has no word.
var words = [...]string{
	api.NodeEntry:              "entry",
	api.NodeBelt:               "belt",
	api.NodeScreen:             "screen",
	api.NodeDiverter:           "diverter",
	api.NodeLoop:               "loop",
	api.NodeGate:               "gate",
	api.NodeStore:              "store",
	api.NodeChute:              "chute",
	api.NodeManual:             "manual",
	devices + api.DevPhotocell: "photocell",
	devices + api.DevScanner:   "scanner",
}

// forms has a character for each further word of the lines of each kind: the name, length and zone of a node, the arrow, the names of other nodes by their numbers, or the window of a device.
var forms = [...]string{
	api.NodeEntry:              "NLZ>0",
	api.NodeBelt:               "NLZ>0",
	api.NodeScreen:             "NLZ>0",
	api.NodeDiverter:           "NLZ>01",
	api.NodeLoop:               "NLZ>01",
	api.NodeGate:               "NLZ>01",
	api.NodeStore:              "NZ>0",
	api.NodeChute:              "NZ",
	api.NodeManual:             "NZ",
	devices + api.DevPhotocell: "0W",
	devices + api.DevScanner:   "0W",
}

// line is what a line of a text says of a node or a device. It has names of other nodes, as a text can name a node before its line.
type line struct {
	kind                 int
	name                 string
	length, zone, window int
	others               []string
}

func (x line) isDevice() bool {
	return x.kind > devices
}

// Format returns the text of l.
func Format(l api.Layout) (string, api.Errno) {
	if e := Validate(l); e != api.OK {
		return "", e
	}
	var b strings.Builder
	for _, n := range l.Nodes {
		b.WriteString(writeLine(line{kind: n.Kind, name: n.Name, length: n.Length, zone: n.Zone, others: names(l.Nodes, n.Exits...)}))
	}
	for _, d := range l.Devices {
		b.WriteString(writeLine(line{kind: devices + d.Kind, window: d.Window, others: names(l.Nodes, d.Node)}))
	}
	return b.String(), api.OK
}

func names(nodes []api.Node, indices ...int) []string {
	var l []string
	for _, i := range indices {
		l = append(l, nodes[i].Name)
	}
	return l
}

func writeLine(x line) string {
	l := []string{words[x.kind]}
	for _, part := range forms[x.kind] {
		l = append(l, x.word(part))
	}
	return strings.Join(l, space) + lineFeed
}

// word returns the word of x for a character of its form.
func (x line) word(part rune) string {
	switch part {
	case 'N':
		return x.name
	case 'L':
		return strconv.Itoa(x.length)
	case 'Z':
		return strconv.Itoa(x.zone)
	case 'W':
		return strconv.Itoa(x.window)
	case '>':
		return arrow
	}
	return x.others[part-'0']
}

// Parse returns the layout with the text s and 0, or the number of a line and an error. A name is looked for when all lines have their form, since its node may come later.
func Parse(s string) (api.Layout, int, api.Errno) {
	if len(s) > api.MaxLayout {
		return api.Layout{}, 0, api.ErrLimit
	}
	lines, ok := readLines(s)
	if !ok {
		return api.Layout{}, len(lines) + 1, api.ErrSyntax
	}
	l, missing := build(lines)
	if missing > 0 {
		return api.Layout{}, missing, api.ErrMissing
	}
	if e := Validate(l); e != api.OK {
		return api.Layout{}, 0, e
	}
	return l, 0, api.OK
}

// readLines returns the lines of s, or those before the first wrong one and false.
func readLines(s string) ([]line, bool) {
	var l []line
	for s != "" {
		text, rest, whole := strings.Cut(s, lineFeed)
		x, ok := readLine(text)
		if !whole || !ok || !follows(l, x) {
			return l, false
		}
		l = append(l, x)
		s = rest
	}
	return l, true
}

// follows reports whether x may stand behind l: no node stands behind a device.
func follows(l []line, x line) bool {
	return len(l) == 0 || x.isDevice() || !l[len(l)-1].isDevice()
}

func readLine(text string) (line, bool) {
	l := strings.Split(text, space)
	x := line{kind: kindOf(l[0])}
	form := forms[x.kind]
	if form == "" || len(l) != 1+len(form) {
		return line{}, false
	}
	for i, part := range form {
		if !x.read(part, l[1+i]) {
			return line{}, false
		}
	}
	return x, true
}

// kindOf returns the kind with a word, or 0.
func kindOf(word string) int {
	for kind, w := range words {
		if w == word {
			return kind
		}
	}
	return 0
}

// read adds the word for a character of the form to x, and reports whether it is such a word.
func (x *line) read(part rune, word string) bool {
	var ok bool
	switch part {
	case 'N':
		x.name, ok = word, message.ValidName(word)
	case 'L':
		x.length, ok = number(word)
	case 'Z':
		x.zone, ok = number(word)
	case 'W':
		x.window, ok = number(word)
	case '>':
		ok = word == arrow
	default:
		x.others, ok = append(x.others, word), message.ValidName(word)
	}
	return ok
}

// number returns the number that a word stands for. Only the word that would be written for it is one.
func number(word string) (int, bool) {
	n, ok := ascii.Value(word)
	return n, ok && n <= mostNumber && strconv.Itoa(n) == word
}

// build returns the layout of some lines and 0, or the number of the first line that names no node. Nodes come before devices, so that the index of a node is that of its line.
func build(lines []line) (api.Layout, int) {
	var l api.Layout
	for _, x := range lines {
		if !x.isDevice() {
			l.Nodes = append(l.Nodes, api.Node{Name: x.name, Kind: x.kind, Length: x.length, Zone: x.zone})
		}
	}
	for i, x := range lines {
		found := indices(l.Nodes, x.others)
		switch {
		case slices.Contains(found, -1):
			return api.Layout{}, i + 1
		case x.isDevice():
			l.Devices = append(l.Devices, api.Device{Kind: x.kind - devices, Node: found[0], Window: x.window})
		default:
			l.Nodes[i].Exits = found
		}
	}
	return l, 0
}

// indices returns the indices of the first nodes with some names, with -1 for a name that no node has.
func indices(nodes []api.Node, names []string) []int {
	var l []int
	for _, name := range names {
		l = append(l, find(nodes, name))
	}
	return l
}
