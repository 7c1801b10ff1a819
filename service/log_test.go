package service

import (
	"fmt"
	"slices"
	"strconv"
	"strings"
	"testing"

	"skywave/api"
)

// enters checks an entry after a valid log by CheckLog and Appended, and by the model.
func enters(t *testing.T, n api.ServiceNet, l []api.ServiceEntry, x api.ServiceEntry, expected api.Errno) {
	t.Helper()
	longer := append(slices.Clone(l), x)
	i, e := CheckLog(n, longer)
	index := len(l)
	if expected == api.OK || len(l) == 60 {
		index = 0
	}
	if i != index || e != expected {
		t.Errorf("CheckLog with %q: %d, %d, want %d, %d", start(x.Text), i, e, index, expected)
	}
	appended, e := Appended(n, l, x)
	if expected != api.OK {
		refused(t, "Appended with "+start(x.Text), expected, appended, e)
		return
	}
	want(t, "Appended", results(appended, e), results(longer, api.OK))
}

// first returns the first one of several errors.
func first(list ...api.Errno) api.Errno {
	i := slices.IndexFunc(list, func(e api.Errno) bool { return e != api.OK })
	return append(list, api.OK)[(i+len(list)+1)%(len(list)+1)]
}

// choice is a part of a text, and the error that it causes.
type choice struct {
	text string
	e    api.Errno
}

func good(text string) choice { return choice{text, api.OK} }

// P10.2: the errors of an entry but for its text, in their order.
func TestErrorsOfEntries(t *testing.T) {
	l := []api.ServiceEntry{entry(5, "ola", "note a"), entry(7, "ola", "note b")}
	people := []choice{{"", api.ErrMissing}, {"Ola", api.ErrMissing}, {"k", api.ErrMissing}, {"ola ", api.ErrMissing}, good("vic"), good("ola"), good("mia")}
	texts := []choice{
		{strings.Repeat("x", 401), api.ErrLarge}, {"note " + strings.Repeat("x", 396), api.ErrLarge},
		{strings.Repeat("\n", 401), api.ErrLarge}, {strings.Repeat("x", 60000), api.ErrLarge},
		{"\n", api.ErrForm}, {"note \n", api.ErrForm}, {"note \x1f", api.ErrForm}, {"note \x7f", api.ErrForm}, {"note \x80", api.ErrForm}, {"note é", api.ErrForm}, {"\x00note a", api.ErrForm}, {"value\tstorm 5", api.ErrForm}, {"note \xff", api.ErrForm},
		{"", api.ErrSyntax}, {" ", api.ErrSyntax}, {" note a", api.ErrSyntax}, {"hello", api.ErrSyntax}, {"Note a", api.ErrSyntax}, {"notes a", api.ErrSyntax}, {"not e", api.ErrSyntax}, {"send c 0", api.ErrSyntax}, {"-", api.ErrSyntax},
		{"note", api.ErrSyntax}, good("note "), good("note a"), good("note " + strings.Repeat("~", 395)), good("note  ! ~ "),
	}
	for _, by := range people {
		for _, at := range append(outsideOf(0, 1000000000000), 0, 6, 7, 8, 1000000000000) {
			e := api.OK
			if at < 0 || at > 1000000000000 {
				e = api.ErrRange
			} else if at < 7 {
				e = api.ErrOrder
			}
			for _, x := range texts {
				enters(t, fourNet(), l, entry(at, by.text, x.text), first(by.e, e, x.e))
			}
		}
	}
	for b := range 256 {
		e := api.ErrForm
		if b >= 32 && b <= 126 {
			e = api.OK
		}
		enters(t, fourNet(), l, entry(7, "vic", "note "+string([]byte{byte(b)})), e)
	}
	enters(t, fourNet(), nil, entry(0, "vic", "note a"), api.OK)
	enters(t, fourNet(), nil, entry(1000000000000, "vic", "note a"), api.OK)
}

// P10.2: an entry is checked for all errors before the next one.
func TestFirstWrongEntry(t *testing.T) {
	bad := []struct {
		x api.ServiceEntry
		e api.Errno
	}{
		{entry(9, "none", "note a"), api.ErrMissing},
		{entry(-1, "ola", "note a"), api.ErrRange},
		{entry(1, "ola", "note a"), api.ErrOrder},
		{entry(9, "ola", strings.Repeat("x", 401)), api.ErrLarge},
		{entry(9, "ola", "\n"), api.ErrForm},
		{entry(9, "ola", "x"), api.ErrSyntax},
		{entry(9, "ola", "client c"), api.ErrAllowed},
		{entry(9, "ola", "note"), api.ErrSyntax},
		{entry(9, "ola", "value none 5"), api.ErrMissing},
	}
	for _, x := range bad {
		for _, other := range bad {
			for place := range 3 {
				l := append(slices.Clone(exampleLog()[:2+place]), x.x, other.x)
				i, e := CheckLog(exampleNet(), l)
				want(t, "CheckLog", results(i, e), results(2+place, x.e))
			}
		}
	}
}

// P10.2: a log has at most 60 entries, which is checked before them.
func TestLengthsOfLogs(t *testing.T) {
	n := exampleNet()
	most := manyOf(entry(1, "ola", "note a"), 60)
	i, e := CheckLog(n, most)
	want(t, "CheckLog of 60 entries", results(i, e), results(0, api.OK))
	enters(t, n, most[:59], most[0], api.OK)
	for _, x := range []api.ServiceEntry{most[0], {}, entry(-1, "x", "\n")} {
		enters(t, n, most, x, api.ErrLarge)
	}
	for _, size := range []int{61, 60000} {
		for _, x := range []api.ServiceEntry{most[0], {}} {
			i, e := CheckLog(n, manyOf(x, size))
			want(t, "CheckLog of a large log", results(i, e), results(0, api.ErrLarge))
		}
	}
	i, e = CheckLog(n, nil)
	want(t, "CheckLog of the empty log", results(i, e), results(0, api.OK))
}

// P10.2: a net's errors come first, and concern no entry.
func TestNetsOfLogs(t *testing.T) {
	for _, x := range badNets() {
		for _, l := range [][]api.ServiceEntry{nil, exampleLog(), {{}}, make([]api.ServiceEntry, 61)} {
			if i, e := CheckLog(x.n, l); i != 0 || e != x.e {
				t.Errorf("CheckLog with bad %s: %d, %d, want 0, %d", x.what, i, e, x.e)
			}
		}
	}
}

// P10.2: the roles of the table, which are checked before the form.
func TestRoles(t *testing.T) {
	n := wideNet()
	roles := map[string]int{"note": 0, "sound": 1, "pair": 1, "gram": 1, "edit": 2, "invert": 2, "value": 1, "client": 3, "subscribe": 1, "put": 1, "move": 1}
	var l []api.ServiceEntry
	for _, text := range textsOfAllKinds() {
		word, _, _ := strings.Cut(text, " ")
		for _, p := range n.People {
			own := strings.ReplaceAll(text, "mia", p.Name)
			if p.Role < roles[word] {
				enters(t, n, l, entry(9, p.Name, own), api.ErrAllowed)
				enters(t, n, l, entry(9, p.Name, word), api.ErrAllowed)
				enters(t, n, l, entry(9, p.Name, word+"  "), api.ErrAllowed)
				continue
			}
			enters(t, n, l, entry(9, p.Name, own), api.OK)
			enters(t, n, l, entry(9, p.Name, word), api.ErrSyntax)
		}
		l = append(l, entry(9, "mia", text))
	}
	want(t, "the kinds", len(table), len(roles))
}

// P10.2: texts near valid ones have the errors that the chapter's forms give them.
func TestForms(t *testing.T) {
	n := exampleNet()
	var l []api.ServiceEntry
	for _, text := range append(textsOfAllKinds(), "value storm -1000000", "move c9 send 10", "edit g9 2 w 0 1 mia") {
		text = strings.ReplaceAll(text, strings.Repeat("1,0 ", 32), "")
		text = strings.ReplaceAll(text, strings.Repeat("0,1 ", 32), "")
		for _, near := range manyTexts(text) {
			x := entry(9, "mia", near)
			enters(t, n, l, x, modelOf(n, l).enter(x))
		}
		if modelOf(n, l).enter(entry(9, "mia", text)) == api.OK {
			l = append(l, entry(9, "mia", text))
		}
	}
}

// P10.2: words are not empty, are separated by single blanks, and as many as the form has.
func TestWords(t *testing.T) {
	l := exampleLog()
	for _, text := range []string{
		"note", "sound", "sound ", "sound x", "sound x ", "sound x k", "sound  k " + firstFrame, "sound x  " + firstFrame, "sound  x k " + firstFrame,
		"pair", "pair ", "pair s2", "pair  " + secondFrame,
		"gram x", "gram x k", "gram  k " + exampleGram, "gram x  " + exampleGram,
		"edit g1", "edit  3 r 0 0 mia", "edit ",
		"invert", "invert ", "invert g1 ", "invert g1 x", "invert  g1",
		"value", "value storm", "value storm ", "value  5", "value storm 5 ", "value storm 5 5", "value storm  5",
		"client", "client ", "client x ", "client x y", "client  x",
		"subscribe c", "subscribe c ", "subscribe  storm", "subscribe c storm ", "subscribe c storm x",
		"put c", "put c ", "put  storm", "put c storm ", "put c storm x",
		"move c send", "move c send ", "move  send 0", "move c  0", "move c send 0 ", "move c send 0 0",
	} {
		enters(t, exampleNet(), l, entry(99, "mia", text), api.ErrSyntax)
		// Other errors come later.
		enters(t, exampleNet(), nil, entry(99, "mia", text), api.ErrSyntax)
	}
}

// P10.2: NUMBER and INDEX have at most 7 digits; "-" may precede NUMBER.
func TestNumbersOfTexts(t *testing.T) {
	l := exampleLog()
	for _, x := range []struct {
		word           string
		number, moving api.Errno
	}{
		{"0", api.OK, api.OK},
		{"5", api.OK, api.ErrMissing},
		{"-5", api.OK, api.ErrSyntax},
		{"1000000", api.OK, api.ErrMissing},
		{"-1000000", api.OK, api.ErrSyntax},
		{"1000001", api.ErrRange, api.ErrMissing},
		{"-1000001", api.ErrRange, api.ErrSyntax},
		{"9999999", api.ErrRange, api.ErrMissing},
		{"-9999999", api.ErrRange, api.ErrSyntax},
		{"10000000", api.ErrSyntax, api.ErrSyntax},
		{"-10000000", api.ErrSyntax, api.ErrSyntax},
		{"-0", api.ErrSyntax, api.ErrSyntax},
		{"+1", api.ErrSyntax, api.ErrSyntax},
		{"01", api.ErrSyntax, api.ErrSyntax},
		{"-01", api.ErrSyntax, api.ErrSyntax},
		{"00", api.ErrSyntax, api.ErrSyntax},
		{"--1", api.ErrSyntax, api.ErrSyntax},
		{"-", api.ErrSyntax, api.ErrSyntax},
		{"1.0", api.ErrSyntax, api.ErrSyntax},
		{"1e3", api.ErrSyntax, api.ErrSyntax},
		{"0x1", api.ErrSyntax, api.ErrSyntax},
		{"1_0", api.ErrSyntax, api.ErrSyntax},
		{"x", api.ErrSyntax, api.ErrSyntax},
		{"99999999999999999999", api.ErrSyntax, api.ErrSyntax},
		{"00000000000000000001", api.ErrSyntax, api.ErrSyntax},
	} {
		enters(t, exampleNet(), l, entry(99, "ola", "value storm "+x.word), x.number)
		enters(t, exampleNet(), l, entry(99, "ola", "move c send "+x.word), x.moving)
		// Malformed numbers come before other errors.
		if x.number == api.ErrSyntax {
			enters(t, exampleNet(), l, entry(99, "ola", "value none "+x.word), api.ErrSyntax)
			enters(t, exampleNet(), l, entry(99, "ola", "move none none "+x.word), api.ErrSyntax)
		} else {
			enters(t, exampleNet(), l, entry(99, "ola", "value none "+x.word), api.ErrMissing)
		}
	}
}

// newNames are names for an item that is to be made, if "there" is one already.
func newNames(there string) []choice {
	list := []choice{good("x"), good("z9-"), good("storm"), good("k"), good("ola"), {there, api.ErrExists}, {"abcdefghijklm", api.ErrName}, {"9", api.ErrName}, {"a_b", api.ErrName}, {"-", api.ErrName}}
	return list
}

var (
	stationChoices = []choice{good("k"), {"none", api.ErrMissing}, {"9", api.ErrMissing}, {"K", api.ErrMissing}, {"storm", api.ErrMissing}}
	frameChoices   = []choice{
		good(firstFrame), good("0 20;0,0 0,0 0,0 0,0 0,0;0 1 2 3 4"), good("-8 1;0,0 0,0 0,0 0,0 0,1;"),
		{"", api.ErrSyntax}, {"0 20;0,0", api.ErrSyntax}, {firstFrame + " ", api.ErrSyntax}, {" " + firstFrame, api.ErrSyntax},
		{"9 20;0,0;", api.ErrRange}, {"0 0;0,0;", api.ErrRange}, {"0 20;;", api.ErrShape}, {"0 20;21,0 0,0 0,0;", api.ErrRange},
		{"0 20;0,0 0,0 0,0;3", api.ErrMissing}, {"0 20;0,0 0,0 0,0;1 1", api.ErrOrder},
		{"0 20;" + strings.TrimSuffix(strings.Repeat("0,0 ", 65), " ") + ";", api.ErrLarge},
		{"0 20;1,1 1,1;", api.ErrShape}, {"0 20;1,1;", api.ErrShape}, // shorter than the code
	}
	gramChoices = []choice{
		good(exampleGram), good("1 1;0n"), good("3000 3000;0n;255u"), good("200 50" + strings.Repeat(";1o", 10)),
		{"", api.ErrSyntax}, {"200 50;200", api.ErrSyntax}, {exampleGram + " ", api.ErrSyntax}, {"200 50", api.ErrShape}, {"200 50;", api.ErrShape},
		{"0 50;1o", api.ErrRange}, {"200 50;256o", api.ErrRange}, {"200 50;1o;1o,2o", api.ErrShape}, {"200 50" + strings.Repeat(";1o", 11), api.ErrLarge},
		{"200 50;" + strings.TrimSuffix(strings.Repeat("1o,", 13), ","), api.ErrLarge},
	}
)

// P10.2: the errors of a sounding, in their order, for all combinations.
func TestSoundTexts(t *testing.T) {
	l := logOf("ola sound s1 k " + firstFrame)
	full := slices.Clone(l)
	for _, name := range named(7) {
		full = append(full, entry(9, "ola", "sound "+name+" k "+firstFrame))
	}
	for _, name := range newNames("s1") {
		for _, station := range stationChoices {
			for _, frame := range frameChoices {
				x := entry(9, "ola", "sound "+name.text+" "+station.text+" "+frame.text)
				e := first(name.e, station.e, frame.e)
				enters(t, exampleNet(), l, x, e)
				enters(t, exampleNet(), full[:7], x, e)
				enters(t, exampleNet(), full, x, first(e, api.ErrFull))
			}
		}
	}
}

func TestPairTexts(t *testing.T) {
	l := logOf("ola sound s1 k "+firstFrame, "ola pair s1 "+secondFrame, "ola sound s2 k "+secondFrame)
	frames := append(slices.Clone(frameChoices),
		choice{"0 20;1,1 1,1 1,1;", api.ErrClash}, choice{"0 20;1,1 1,1 1,1 1,1;", api.ErrClash}, choice{"0 20;1,1 1,1 1,1 1,1 1,1 1,1;", api.ErrClash})
	for _, frame := range frames {
		for _, name := range []choice{good("s2"), {"s1", api.ErrState}, {"none", api.ErrMissing}, {"9", api.ErrMissing}, {"S2", api.ErrMissing}} {
			enters(t, exampleNet(), l, entry(9, "ola", "pair "+name.text+" "+frame.text), first(name.e, frame.e))
		}
	}
}

func TestGramTexts(t *testing.T) {
	l := logOf("ola gram g1 k " + exampleGram)
	full := slices.Clone(l)
	for _, name := range named(5) {
		full = append(full, entry(9, "ola", "gram "+name+" k "+exampleGram))
	}
	for _, name := range newNames("g1") {
		for _, station := range stationChoices {
			for _, gram := range gramChoices {
				x := entry(9, "ola", "gram "+name.text+" "+station.text+" "+gram.text)
				e := first(name.e, station.e, gram.e)
				enters(t, exampleNet(), l, x, e)
				enters(t, exampleNet(), full[:5], x, e)
				enters(t, exampleNet(), full, x, first(e, api.ErrFull))
			}
		}
	}
}

func TestEditTexts(t *testing.T) {
	l := logOf("ola gram g1 k "+exampleGram, "ola gram g2 k "+exampleGram, "ria edit g1 5 m 2 0 ria", "ria edit g1 6 w 0 5 ria")
	edits := []choice{
		good("7 m 2 1 ria"), good("7 r 0 0 ria"), good("7 w 0 5 ria"), good("7 w 0 6 ria"), good("1000000 m 0 1 ria"),
		{"", api.ErrSyntax}, {"7 m 2 1", api.ErrSyntax}, {"7 x 2 1 ria", api.ErrSyntax}, {"7 m 2 1 ria ", api.ErrSyntax},
		{"0 m 2 1 ria", api.ErrRange}, {"7 m 10 1 ria", api.ErrRange}, {"7 m 2 12 ria", api.ErrRange}, {"7 r 2 1 ria", api.ErrForm}, {"7 w 1 5 ria", api.ErrForm}, {"7 m 2 1 9", api.ErrName},
		{"0 m 2 1 mia", api.ErrRange}, // before its By
		{"7 m 2 1 mia", api.ErrClash}, {"7 m 2 1 ola", api.ErrClash}, {"7 m 2 1 x", api.ErrClash}, {"7 m 2 1 Ria", api.ErrClash},
		{"6 m 2 1 mia", api.ErrClash}, {"7 w 0 9 mia", api.ErrClash}, {"7 m 9 1 mia", api.ErrClash}, // before the errors of all edits
		{"6 m 2 1 ria", api.ErrOrder}, {"5 m 2 1 ria", api.ErrOrder}, {"1 r 9 0 ria", api.ErrOrder}, {"7 w 0 9 ria", api.ErrMissing}, {"7 w 0 7 ria", api.ErrMissing}, {"6 w 0 7 ria", api.ErrMissing}, {"6 w 0 6 ria", api.ErrOrder},
		{"7 m 3 1 ria", api.ErrMissing}, {"7 m 2 2 ria", api.ErrMissing}, {"7 r 3 0 ria", api.ErrMissing},
	}
	for _, edit := range edits {
		enters(t, exampleNet(), l, entry(9, "ria", "edit g1 "+edit.text), edit.e)
		for _, name := range []string{"none", "9", "G1"} {
			enters(t, exampleNet(), l, entry(9, "ria", "edit "+name+" "+edit.text), api.ErrMissing)
		}
	}
	// Edits of another ionogram are apart.
	enters(t, exampleNet(), l, entry(9, "ria", "edit g2 1 m 2 1 ria"), api.OK)
	enters(t, exampleNet(), l, entry(9, "ria", "edit g2 7 w 0 5 ria"), api.ErrMissing)
	// Who has a greater role edits, too, by the own name.
	enters(t, exampleNet(), l, entry(9, "mia", "edit g1 7 m 2 1 mia"), api.OK)
	enters(t, exampleNet(), l, entry(9, "mia", "edit g1 7 m 2 1 ria"), api.ErrClash)
	for i := range 18 {
		l = append(l, entry(9, "ria", "edit g1 "+strconv.Itoa(7+i)+" m 2 1 ria"))
	}
	enters(t, exampleNet(), l[:len(l)-1], entry(9, "ria", "edit g1 90 m 2 1 ria"), api.OK)
	for _, edit := range []choice{{"90 m 2 1 ria", api.ErrLarge}, {"90 m 9 1 ria", api.ErrLarge}, {"6 m 2 1 ria", api.ErrLarge}, {"90 m 2 1 mia", api.ErrClash}, {"90", api.ErrSyntax}} {
		enters(t, exampleNet(), l, entry(9, "ria", "edit g1 "+edit.text), edit.e)
	}
}

func TestInvertTexts(t *testing.T) {
	ascending := func(first, step, columns int) string {
		return fmt.Sprintf("ola gram g k %d %d%s", first, step, strings.Repeat(";200o", columns))
	}
	var removals []string
	for column := range 3 {
		removals = append(removals, fmt.Sprintf("ria edit g %d r %d 0 ria", 1+column, column))
	}
	for _, x := range []struct {
		lines []string
		e     api.Errno
	}{
		{nil, api.ErrMissing},
		{[]string{ascending(200, 50, 1)}, api.OK},
		{[]string{ascending(200, 50, 8)}, api.OK},
		{[]string{ascending(200, 50, 9)}, api.ErrLarge},
		{[]string{ascending(200, 50, 10)}, api.ErrLarge},
		{append([]string{ascending(200, 50, 9)}, removals[:1]...), api.OK},
		{append([]string{ascending(200, 50, 10)}, removals[:1]...), api.ErrLarge},
		{append([]string{ascending(200, 50, 10)}, removals[:2]...), api.OK},
		{append([]string{ascending(200, 50, 3)}, removals...), api.ErrShape},
		{[]string{ascending(3000, 1, 1)}, api.OK},
		{[]string{ascending(3000, 1, 2)}, api.ErrRange},
		{[]string{ascending(2999, 1, 2)}, api.OK},
		{[]string{"ola gram g k 200 1;0n,0n,0n,0n,0n,0n,0n,0n,0n,0n,0n,255o;255o,0n,0n,0n,0n,0n,0n,0n,0n,0n,0n,0n"}, api.ErrNone},
	} {
		n := exampleNet()
		n.Reading.Limit, n.Reading.Row = 12, 10
		l := logOf(x.lines...)
		enters(t, n, l, entry(99, "ria", "invert g"), x.e)
		enters(t, n, l, entry(99, "ria", "invert none"), api.ErrMissing)
		enters(t, n, l, entry(99, "ria", "invert 9"), api.ErrMissing)
	}
	// A profile that would begin too high.
	n := exampleNet()
	n.Reading.Base, n.Reading.Row = 500, 1
	enters(t, n, logOf("ola gram g k 200 1;0o"), entry(99, "ria", "invert g"), api.OK)
	enters(t, n, logOf("ola gram g k 200 1;0n,9o"), entry(99, "ria", "invert g"), api.ErrBreak)
}

func TestValueTexts(t *testing.T) {
	var l []api.ServiceEntry
	for i := range 40 {
		l = append(l, entry(1, "ola", "value storm "+strconv.Itoa(i)))
	}
	for _, name := range []choice{good("storm"), {"fade", api.ErrMissing}, {"9", api.ErrMissing}, {"k", api.ErrMissing}, {"Storm", api.ErrMissing}} {
		for _, number := range []choice{good("0"), good("-1000000"), good("1000000"), {"1000001", api.ErrRange}, {"-1000001", api.ErrRange}} {
			x := entry(9, "ola", "value "+name.text+" "+number.text)
			enters(t, exampleNet(), l[:39], x, first(name.e, number.e))
			enters(t, exampleNet(), l, x, first(name.e, number.e, api.ErrFull))
		}
	}
	// Values of another warning are apart.
	enters(t, fourNet(), l, entry(9, "ola", "value fade 5"), api.OK)
}

func TestClientTexts(t *testing.T) {
	l := logOf("mia client c")
	full := slices.Clone(l)
	for _, name := range named(5) {
		full = append(full, entry(9, "mia", "client "+name))
	}
	for _, name := range newNames("c") {
		x := entry(9, "mia", "client "+name.text)
		enters(t, exampleNet(), l, x, name.e)
		enters(t, exampleNet(), full[:5], x, name.e)
		enters(t, exampleNet(), full, x, first(name.e, api.ErrFull))
	}
}

func TestSubscribeAndPutTexts(t *testing.T) {
	l := logOf("mia client c", "mia client d", "ola subscribe c storm", "ola subscribe c fade", "ola value storm 55")
	clients := []choice{good("c"), {"none", api.ErrMissing}, {"9", api.ErrMissing}, {"storm", api.ErrMissing}}
	topics := []choice{good("storm"), {"none", api.ErrMissing}, {"9", api.ErrMissing}, {"c", api.ErrMissing}}
	for _, c := range clients {
		for _, topic := range topics {
			names, e := c.text+" "+topic.text, first(c.e, topic.e)
			enters(t, fourNet(), l, entry(9, "ola", "subscribe "+names), first(e, api.ErrDouble))
			enters(t, fourNet(), l[:2], entry(9, "ola", "subscribe "+names), e)
			enters(t, fourNet(), l, entry(9, "ola", "put "+names), e)
			// Without a version, and then without a subscription, too.
			enters(t, fourNet(), l[:4], entry(9, "ola", "put "+names), first(e, api.ErrGap))
			enters(t, fourNet(), l[:2], entry(9, "ola", "put "+names), first(e, api.ErrRefused))
		}
	}
	enters(t, fourNet(), l, entry(9, "ola", "put d storm"), api.ErrRefused)
	enters(t, fourNet(), l, entry(9, "ola", "put d fade"), api.ErrRefused)
	enters(t, fourNet(), l, entry(9, "ola", "put c fade"), api.ErrGap)
	enters(t, fourNet(), l, entry(9, "ola", "subscribe d storm"), api.OK)
	// A warning that was closed has a version.
	closed := append(slices.Clone(l), entry(6, "ola", "value storm 0"), entry(6, "ola", "value storm 0"))
	enters(t, fourNet(), closed, entry(9, "ola", "put c storm"), api.OK)
	// A value that opens nothing gives no version.
	enters(t, fourNet(), append(slices.Clone(l), entry(6, "ola", "value fade 9")), entry(9, "ola", "put c fade"), api.ErrGap)
}

func TestMoveTexts(t *testing.T) {
	l := logOf("mia client c", "ola subscribe c storm", "ola value storm 55", "ola put c storm", "ola move c send 0", "ola move c copy 0", "mia client d")
	for _, c := range []choice{good("c"), {"none", api.ErrMissing}, {"9", api.ErrMissing}, {"storm", api.ErrMissing}} {
		for _, kind := range []string{"put", "Send", "sent", "x", "0", "event", "-"} {
			for _, index := range []string{"0", "7"} {
				enters(t, exampleNet(), l, entry(9, "ola", "move "+c.text+" "+kind+" "+index), first(c.e, api.ErrSyntax))
			}
		}
		for _, index := range []int{0, 1, 2, 9999999} {
			e := api.OK
			if index > 1 {
				e = api.ErrMissing
			}
			for _, kind := range []string{"lose", "copy", "take"} {
				enters(t, exampleNet(), l, entry(9, "ola", fmt.Sprint("move ", c.text, " ", kind, " ", index)), first(c.e, e))
			}
			if index > 0 {
				e = api.ErrMissing
			}
			enters(t, exampleNet(), l, entry(9, "ola", fmt.Sprint("move ", c.text, " send ", index)), first(c.e, e))
		}
	}
	for _, kind := range []string{"send", "lose", "copy", "take"} {
		enters(t, exampleNet(), l, entry(9, "ola", "move d "+kind+" 0"), api.ErrMissing)
	}
}

// P10.2: entries that are likely and unlikely, after irregular logs, have the errors of the model.
func TestIrregularEntries(t *testing.T) {
	for i, n := range goodNets() {
		for seed := range 60 {
			l := irregularLog(n, 1000*i+seed, seed)
			next := numbers(seed)
			for range 10 {
				m := modelOf(n, l)
				x := irregularEntry(m, next, 1000+next(5))
				enters(t, n, l, x, m.enter(x))
			}
		}
	}
}
