package station

import (
	"strings"
	"testing"

	"skywave/api"
)

// arguments are those of all calls that return errors.
type arguments struct {
	exchange         api.StationExchange
	exchanges, apart []api.StationExchange
	drift, t         int
	queue            []api.StationItem
	item             api.StationItem
	capacity         int
	link             api.StationLink
	series           []int
	packed           api.StationPacked
	text             string
	size             int
	block            api.StationBlock
	blocks           []api.StationBlock
	count            int
	line             string
	records, others  []api.StationRecord
	net              api.StationNet
	slots            []int
}

// call is a call, and the letters of the arguments whose errors it returns, in the order of these errors.
type call struct {
	name, order string
	run         func(a arguments) []any
}

func goodArguments() arguments {
	return arguments{
		exchange:  exchange(100, 505, 110),
		exchanges: exampleExchanges(),
		apart:     []api.StationExchange{exchange(100, 505, 110), exchange(300, 720, 310)},
		drift:     2,
		t:         300,
		queue:     exampleQueue(),
		item:      exampleItem(3, 20),
		capacity:  60,
		link:      api.StationLink{Begin: 10, Units: 40},
		series:    []int{5, 5, 5, 5, 5, 5, 9},
		packed:    packed(api.StationRuns, 5, 6, 9, 1),
		text:      "abc",
		size:      2,
		block:     exampleBlocks()[0],
		blocks:    exampleBlocks(),
		count:     2,
		line:      "0 1 5 a b",
		records:   []api.StationRecord{record("x", 1, "a"), record("y", 0, "b")},
		others:    []api.StationRecord{record("x", 2, ""), record("z", 1, "c")},
		net:       ring(),
		slots:     []int{0, 1, 0, 1},
	}
}

// allCalls are all calls that return errors.
func allCalls() []call {
	list := func(list ...any) []any { return list }
	return []call{
		{"CheckExchange", "x", func(a arguments) []any { return list(CheckExchange(a.exchange)) }},
		{"OffsetBy", "xdt", func(a arguments) []any { r, e := OffsetBy(a.exchange, a.drift, a.t); return list(r, e) }},
		{"OffsetAt", "ldt", func(a arguments) []any { r, e := OffsetAt(a.exchanges, a.drift, a.t); return list(r, e) }},
		{"Contradicting", "ldt", func(a arguments) []any { p, e := Contradicting(a.apart, a.drift, a.t); return list(p, e) }},
		{"TrueAt", "ldt", func(a arguments) []any { r, e := TrueAt(a.exchanges, a.drift, a.t); return list(r, e) }},
		{"CheckQueue", "q", func(a arguments) []any { _, e := CheckQueue(a.queue); return list(e) }},
		{"Put", "qic", func(a arguments) []any { q, l, e := Put(a.queue, a.item, a.capacity); return list(q, l, e) }},
		{"OrderOf", "q", func(a arguments) []any { l, e := OrderOf(a.queue); return list(l, e) }},
		{"SentBy", "qk", func(a arguments) []any { l, e := SentBy(a.queue, a.link); return list(l, e) }},
		{"Packed", "s", func(a arguments) []any { p, e := Packed(a.series); return list(p, e) }},
		{"Unpacked", "p", func(a arguments) []any { l, e := Unpacked(a.packed); return list(l, e) }},
		{"CheckOf", "T", func(a arguments) []any { n, e := CheckOf(a.text); return list(n, e) }},
		{"BlocksOf", "Tz", func(a arguments) []any { l, e := BlocksOf(a.text, a.size); return list(l, e) }},
		{"IsSound", "b", func(a arguments) []any { is, e := IsSound(a.block); return list(is, e) }},
		{"MissingIn", "Bn", func(a arguments) []any { l, e := MissingIn(a.blocks, a.count); return list(l, e) }},
		{"Assembled", "Bn", func(a arguments) []any { s, e := Assembled(a.blocks, a.count); return list(s, e) }},
		{"ParseBlock", "L", func(a arguments) []any { b, e := ParseBlock(a.line); return list(b, e) }},
		{"Merged", "RO", func(a arguments) []any { l, e := Merged(a.records, a.others); return list(l, e) }},
		{"CheckNet", "N", func(a arguments) []any { _, e := CheckNet(a.net); return list(e) }},
		{"CheckPlan", "NS", func(a arguments) []any { _, e := CheckPlan(a.net, a.slots); return list(e) }},
		{"PlanFor", "N", func(a arguments) []any { l, n, e := PlanFor(a.net); return list(l, n, e) }},
		{"GroupOf", "N", func(a arguments) []any { l, e := GroupOf(a.net); return list(l, e) }},
	}
}

// spoiled is a change of an argument, and the error that it causes.
type spoiled struct {
	change func(a *arguments)
	e      api.Errno
}

// adder adds to what the argument with a letter may be wrong in.
type adder func(letter string, e api.Errno, change func(a *arguments))

// badArguments returns for each letter of an argument what it may be wrong in.
func badArguments() map[string][]spoiled {
	bad := map[string][]spoiled{}
	add := func(letter string, e api.Errno, change func(a *arguments)) {
		bad[letter] = append(bad[letter], spoiled{change, e})
	}
	addClocks(add)
	addQueues(add)
	addBlocks(add)
	addNets(add)
	for _, x := range badSeries() {
		add("s", x.e, func(a *arguments) { a.series = x.l })
	}
	for _, x := range badPacked() {
		add("p", x.e, func(a *arguments) { a.packed = x.p })
	}
	for _, x := range badRecords() {
		add("R", x.e, func(a *arguments) { a.records = x.l })
		add("O", x.e, func(a *arguments) { a.others = x.l })
	}
	return bad
}

func addClocks(add adder) {
	for _, x := range badExchanges() {
		add("x", x.e, func(a *arguments) { a.exchange = x.x })
	}
	for _, x := range badExchangeLists() {
		add("l", x.e, func(a *arguments) { a.exchanges, a.apart = x.l, x.l })
	}
	for _, n := range outsideOf(0, 1000) {
		add("d", api.ErrRange, func(a *arguments) { a.drift = n })
	}
	for _, n := range outsideOf(0, 1000000000000) {
		add("t", api.ErrRange, func(a *arguments) { a.t = n })
		add("k", api.ErrRange, func(a *arguments) { a.link.Begin = n })
	}
	for _, n := range outsideOf(1, 10000) {
		add("k", api.ErrRange, func(a *arguments) { a.link.Units = n })
	}
}

func addQueues(add adder) {
	for _, x := range badQueues() {
		add("q", x.e, func(a *arguments) { a.queue = x.q })
	}
	for _, x := range badItems() {
		add("i", x.e, func(a *arguments) { a.item = x.x })
	}
	for _, n := range outsideOf(0, 200000) {
		add("c", api.ErrRange, func(a *arguments) { a.capacity = n })
	}
}

func addBlocks(add adder) {
	large := strings.Repeat("a", 3001)
	add("T", api.ErrLarge, func(a *arguments) { a.text = large })
	for _, n := range outsideOf(1, 1000) {
		add("z", api.ErrRange, func(a *arguments) { a.size = n })
	}
	add("b", api.ErrLarge, func(a *arguments) { a.block.Body = large })
	for _, x := range badBlocks() {
		add("B", x.e, func(a *arguments) { a.blocks = x.l })
	}
	for _, n := range outsideOf(1, 30) {
		add("n", api.ErrRange, func(a *arguments) { a.count = n })
	}
	add("L", api.ErrSyntax, func(a *arguments) { a.line = "0 1 5" })
	add("L", api.ErrLarge, func(a *arguments) { a.line = large })
}

func addNets(add adder) {
	for _, x := range badNets() {
		add("N", x.e, func(a *arguments) { a.net = x.n })
	}
	add("S", api.ErrShape, func(a *arguments) { a.slots = []int{-1, 1, 0} })
	add("S", api.ErrClash, func(a *arguments) { a.slots = []int{0, 0, 1, 1} })
	for _, n := range outsideOf(0, 7) {
		add("S", api.ErrRange, func(a *arguments) { a.slots = []int{0, 0, 0, n} })
	}
}

// P9.1 to P9.6: the errors of arguments.
func TestErrorsOfArguments(t *testing.T) {
	bad := badArguments()
	for _, call := range allCalls() {
		got := call.run(goodArguments())
		want(t, call.name, got[len(got)-1], api.OK)
		for letter, list := range bad {
			for _, x := range list {
				a := goodArguments()
				x.change(&a)
				if got := call.run(a); strings.Contains(call.order, letter) {
					refused(t, call.name+" with a bad "+letter, x.e, got...)
				} else {
					want(t, call.name+" with a bad argument that it has not", got[len(got)-1], api.OK)
				}
			}
		}
	}
}

// R1, R9: of the errors of two arguments the first one is returned.
func TestErrorsInOrder(t *testing.T) {
	bad := badArguments()
	for _, call := range allCalls() {
		for i := range len(call.order) {
			for j := range i {
				for _, first := range bad[call.order[j:j+1]] {
					for _, second := range bad[call.order[i:i+1]] {
						a := goodArguments()
						second.change(&a)
						first.change(&a)
						refused(t, call.name+" with two errors", first.e, call.run(a)...)
					}
				}
			}
		}
	}
}

// The errors of arguments come before what cannot be made of them.
func TestErrorsOfResultsAreLast(t *testing.T) {
	apart := goodArguments().apart
	for _, n := range outsideOf(0, 1000000000000) {
		for _, drift := range []int{0, n} {
			r, e := OffsetAt(apart, drift, n)
			refused(t, "OffsetAt of what contradicts", api.ErrRange, r, e)
			pair, e := Contradicting(exampleExchanges(), drift, n)
			refused(t, "Contradicting of what agrees", api.ErrRange, pair, e)
		}
	}
	clash := []api.StationBlock{soundBlock(0, 31, "a"), soundBlock(0, 31, "b")}
	for _, count := range []int{0, 31} {
		s, e := Assembled(clash, count)
		refused(t, "Assembled", api.ErrRange, s, e)
	}
	var full []api.StationRecord
	for _, name := range named(30) {
		full = append(full, record(name, 0, ""))
	}
	for _, x := range badRecords() {
		merged, e := Merged(full, x.l)
		refused(t, "Merged", x.e, merged, e)
		merged, e = Merged(x.l, full)
		refused(t, "Merged", x.e, merged, e)
	}
}

// Numbers at their limits are not refused.
func TestNumbersAtLimits(t *testing.T) {
	for _, tick := range []int{0, 1000000000000} {
		for _, drift := range []int{0, 1000} {
			_, e := OffsetBy(exchange(0, tick, 1000000000000), drift, tick)
			_, o := OffsetAt(exampleExchanges(), drift, tick)
			want(t, "a drift and a time", results(e, o), results(api.OK, api.OK))
		}
		for _, units := range []int{1, 10000} {
			_, e := SentBy(exampleQueue(), api.StationLink{Begin: tick, Units: units})
			want(t, "a link", e, api.OK)
		}
		for _, x := range []api.StationItem{item("c", 0, 1, tick), item("c", 9, 10000, tick)} {
			for _, capacity := range []int{0, 200000} {
				_, _, e := Put(exampleQueue(), x, capacity)
				want(t, "an item and a capacity", e, api.OK)
			}
		}
		_, e := Merged(nil, []api.StationRecord{record("a", tick, strings.Repeat("a", 1000))})
		want(t, "a record", e, api.OK)
	}
	for _, count := range []int{1, 30} {
		_, e := MissingIn(manyOf(soundBlock(0, 1, strings.Repeat("a", 1000)), 60), count)
		want(t, "blocks and a count", e, api.OK)
	}
	for _, n := range []int{-1000000000, 1000000000} {
		_, e := Packed(manyOf(n, 200))
		want(t, "a series", e, api.OK)
	}
}
