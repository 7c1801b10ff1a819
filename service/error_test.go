package service

import (
	"slices"
	"strings"
	"testing"

	"skywave/api"
)

// arguments are those of all calls that return errors.
type arguments struct {
	net                                   api.ServiceNet
	log, other                            []api.ServiceEntry
	entry                                 api.ServiceEntry
	at                                    int
	sound, gram, station, warning, client string
	shot                                  api.ServiceShot
	after                                 int
	journal, question                     string
}

// call is a call, and the letters of the arguments whose errors it returns, in the order of these errors.
type call struct {
	name, order string
	run         func(a arguments) []any
}

func goodArguments() arguments {
	return arguments{
		net:      exampleNet(),
		log:      exampleLog(),
		other:    append(exampleLog()[:15], entry(40, "ola", "note a"), entry(1000, "ola", "note b")),
		entry:    entry(50, "ria", "edit g1 3 m 1 1 ria"),
		at:       12,
		sound:    "s1",
		gram:     "g1",
		station:  "k",
		warning:  "storm",
		client:   "c",
		shot:     api.ServiceShot{Station: "k", Frequency: 250, Launch: api.Frac{Num: 1, Den: 2}},
		after:    5,
		journal:  "1 ola note a 5\n",
		question: "path g1",
	}
}

// allCalls are all calls that return errors.
func allCalls() []call {
	list := func(list ...any) []any { return list }
	return []call{
		{"CheckNet", "n", func(a arguments) []any { _, e := CheckNet(a.net); return list(e) }},
		{"CheckLog", "nl", func(a arguments) []any { _, e := CheckLog(a.net, a.log); return list(e) }},
		{"Appended", "nle", func(a arguments) []any { l, e := Appended(a.net, a.log, a.entry); return list(l, e) }},
		{"StateOf", "nl", func(a arguments) []any { s, e := StateOf(a.net, a.log); return list(s, e) }},
		{"StateAt", "nla", func(a arguments) []any { s, e := StateAt(a.net, a.log, a.at); return list(s, e) }},
		{"EchoesOf", "nls", func(a arguments) []any { l, e := EchoesOf(a.net, a.log, a.sound); return list(l, e) }},
		{"PathOf", "nlg", func(a arguments) []any { p, e := PathOf(a.net, a.log, a.gram); return list(p, e) }},
		{"TraceOf", "nlg", func(a arguments) []any { x, e := TraceOf(a.net, a.log, a.gram); return list(x, e) }},
		{"SkyOver", "nlk", func(a arguments) []any { s, e := SkyOver(a.net, a.log, a.station); return list(s, e) }},
		{"GroundFrom", "nlx", func(a arguments) []any { r, e := GroundFrom(a.net, a.log, a.shot); return list(r, e) }},
		{"WarningOf", "nlw", func(a arguments) []any { s, e := WarningOf(a.net, a.log, a.warning); return list(s, e) }},
		{"PendingFor", "nlc", func(a arguments) []any { l, e := PendingFor(a.net, a.log, a.client); return list(l, e) }},
		{"ProductsOf", "nlp", func(a arguments) []any { l, e := ProductsOf(a.net, a.log, a.station); return list(l, e) }},
		{"SumOf", "f", func(a arguments) []any { n, e := SumOf(a.journal, a.after); return list(n, e) }},
		{"Journal", "nl", func(a arguments) []any { s, e := Journal(a.net, a.log); return list(s, e) }},
		{"Recovered", "nj", func(a arguments) []any { l, n, e := Recovered(a.net, a.journal); return list(l, n, e) }},
		{"Merged", "nlo", func(a arguments) []any { l, r, e := Merged(a.net, a.log, a.other); return list(l, r, e) }},
		{"Answer", "nlq", func(a arguments) []any { s, e := Answer(a.net, a.log, a.question); return list(s, e) }},
		{"New", "n", func(a arguments) []any { d, e := New(a.net); return list(d, e) }},
	}
}

// spoiled is a change of an argument, and the error that it causes.
type spoiled struct {
	change func(a *arguments)
	e      api.Errno
}

// badEntries are entries that cannot follow the example's log.
func badEntries() []spoiled {
	var list []spoiled
	for _, x := range []struct {
		x api.ServiceEntry
		e api.Errno
	}{
		{entry(50, "none", "note a"), api.ErrMissing},
		{entry(-1, "ola", "note a"), api.ErrRange},
		{entry(0, "ola", "note a"), api.ErrOrder},
		{entry(50, "ola", strings.Repeat("x", 401)), api.ErrLarge},
		{entry(50, "ola", "note \x00"), api.ErrForm},
		{entry(50, "ola", "x"), api.ErrSyntax},
		{entry(50, "ola", "invert g1"), api.ErrAllowed},
		{entry(50, "ola", "sound 9 k "+firstFrame), api.ErrName},
		{entry(50, "ola", "sound s1 k "+firstFrame), api.ErrExists},
		{entry(50, "ola", "sound x k 0 20;;"), api.ErrShape},
		{entry(50, "ola", "pair s1 "+firstFrame), api.ErrState},
		{entry(50, "ola", "pair s2 0 20;1,1 1,1 1,1;"), api.ErrClash},
		{entry(50, "ola", "subscribe c storm"), api.ErrDouble},
		{entry(50, "ola", "put d storm"), api.ErrRefused},
	} {
		list = append(list, spoiled{func(a *arguments) { a.entry = x.x }, x.e})
	}
	return list
}

// badArguments returns for each letter of an argument what it may be wrong in.
func badArguments() map[string][]spoiled {
	bad := map[string][]spoiled{"e": badEntries()}
	add := func(letters string, e api.Errno, change func(a *arguments)) {
		for letter := range strings.SplitSeq(letters, "") {
			bad[letter] = append(bad[letter], spoiled{change, e})
		}
	}
	for _, x := range badNets() {
		add("n", x.e, func(a *arguments) { a.net = x.n })
	}
	for _, x := range badEntries() {
		wrong := goodArguments()
		x.change(&wrong)
		add("l", x.e, func(a *arguments) { a.log = append(slices.Clone(a.log), wrong.entry) })
		add("o", x.e, func(a *arguments) { a.other = append(exampleLog(), wrong.entry) })
	}
	add("l", api.ErrLarge, func(a *arguments) { a.log = make([]api.ServiceEntry, 61) })
	add("o", api.ErrLarge, func(a *arguments) { a.other = make([]api.ServiceEntry, 61) })
	for _, at := range outsideOf(0, 1000000000000) {
		add("a", api.ErrRange, func(a *arguments) { a.at = at })
	}
	for _, name := range badNames() {
		add("sgwckpx", api.ErrName, func(a *arguments) { spoilNames(a, name) })
		add("q", api.ErrName, func(a *arguments) { a.question = "path " + name })
	}
	for _, name := range []string{"none", "S1", "G1", "K", "Storm", "C", "z"} {
		add("sgwckpx", api.ErrMissing, func(a *arguments) { spoilNames(a, name) })
		add("q", api.ErrMissing, func(a *arguments) { a.question = "path " + name })
	}
	add("s", api.ErrGap, func(a *arguments) { a.sound = "s2" })
	for _, after := range outsideOf(0, 1000036) {
		add("f", api.ErrRange, func(a *arguments) { a.after = after })
	}
	add("x", api.ErrRange, func(a *arguments) { a.shot.Frequency = 3001 })
	add("x", api.ErrForm, func(a *arguments) { a.shot.Launch = api.Frac{Num: 2, Den: 4} })
	add("x", api.ErrOpen, func(a *arguments) { a.shot.Frequency = 3000 })
	add("j", api.ErrLarge, func(a *arguments) { a.journal += strings.Repeat("x", 60000) })
	add("q", api.ErrSyntax, func(a *arguments) { a.question = "" })
	return bad
}

// spoilNames gives a name to all arguments that are names.
func spoilNames(a *arguments, name string) {
	a.sound, a.gram, a.warning, a.client, a.station, a.shot.Station = name, name, name, name, name, name
}

// P10.1 to P10.8: the errors of arguments.
func TestErrorsOfArguments(t *testing.T) {
	bad := badArguments()
	for _, call := range allCalls() {
		got := call.run(goodArguments())
		want(t, call.name, got[len(got)-1], api.OK)
		for letter := range strings.SplitSeq(call.order, "") {
			if len(bad[letter]) == 0 {
				t.Errorf("no bad %s", letter)
			}
			for _, x := range bad[letter] {
				a := goodArguments()
				x.change(&a)
				refused(t, call.name+" with a bad "+letter, x.e, call.run(a)...)
			}
		}
	}
}

// R1, R9: of the errors of two arguments the first one is returned.
func TestErrorsInOrder(t *testing.T) {
	bad := badArguments()
	for letter, list := range bad {
		slices.SortStableFunc(list, func(a, b spoiled) int { return int(a.e - b.e) })
		bad[letter] = slices.CompactFunc(list, func(a, b spoiled) bool { return a.e == b.e })
	}
	for _, call := range allCalls() {
		for i := range len(call.order) {
			for j := range i {
				for _, first := range bad[call.order[j:j+1]] {
					for _, second := range bad[call.order[i:i+1]] {
						a := goodArguments()
						second.change(&a)
						first.change(&a)
						refused(t, call.name+" with two errors", first.e, call.run(a)...)
					}
				}
			}
		}
	}
}

// A station without a product has no sky, which comes before the errors of a ray.
func TestErrorsOfStationsWithoutProducts(t *testing.T) {
	n, l := fourNet(), exampleLog()
	sky, e := SkyOver(n, l, "q")
	refused(t, "SkyOver", api.ErrGap, sky, e)
	for _, x := range []api.ServiceShot{{Station: "q"}, {Station: "q", Frequency: 100, Launch: api.Frac{Den: 1}}} {
		r, e := GroundFrom(n, l, x)
		refused(t, "GroundFrom", api.ErrGap, r, e)
	}
	products, e := ProductsOf(n, l, "q")
	want(t, "ProductsOf", results(len(products), e), results(0, api.OK))
}
