package warn

import (
	"slices"
	"strings"
	"testing"

	"skywave/api"
)

// arguments are those of all calls that return errors.
type arguments struct {
	rules            api.WarnRules
	state            api.WarnState
	value, variation int
	values           []int
	clients          []api.WarnClient
	client           api.WarnClient
	notice           api.WarnNotice
	notices          []api.WarnNotice
	store            []api.WarnMessage
	message          api.WarnMessage
	list             []api.WarnMessage
	link             api.WarnLink
	move             api.WarnMove
	moves            []api.WarnMove
	text, line       string
}

// call is a call, and the letters of the arguments whose errors it returns, in the order of these errors.
type call struct {
	name, order string
	run         func(a arguments) []any
}

func goodArguments() arguments {
	return arguments{
		rules:     exampleRules(),
		state:     state(1, 1, 5),
		value:     60,
		variation: 100,
		values:    []int{30, 55, 45, 39, 41, 39, 38},
		clients:   exampleClients(),
		client:    client("c", []string{"storm", "fade"}, []string{"north"}),
		notice:    notice("storm", "north"),
		notices:   []api.WarnNotice{notice("fade", "south"), notice("storm", "north")},
		store:     messages("a 3 0", "b 1 2"),
		message:   message("a", 4, 1),
		list:      messages("a 1 1", "b 1 2", "a 3 0", "a 2 1"),
		link:      exampleLink(),
		move:      take(0),
		moves:     []api.WarnMove{take(0), send(1), lose(0), double(1)},
		text:      "storm 2 50/40 80/65",
		line:      "a 3 0",
	}
}

// allCalls are all calls that return errors.
func allCalls() []call {
	list := func(list ...any) []any { return list }
	return []call{
		{"CheckRules", "r", func(a arguments) []any { _, e := CheckRules(a.rules); return list(e) }},
		{"LevelFrom", "rv", func(a arguments) []any { n, e := LevelFrom(a.rules, a.value); return list(n, e) }},
		{"StepOf", "rsv", func(a arguments) []any { s, e := StepOf(a.rules, a.state, a.value); return list(s, e) }},
		{"StateOf", "rV", func(a arguments) []any { s, e := StateOf(a.rules, a.values); return list(s, e) }},
		{"EventsOf", "rV", func(a arguments) []any { l, e := EventsOf(a.rules, a.values); return list(l, e) }},
		{"OpeningsBound", "rd", func(a arguments) []any { n, e := OpeningsBound(a.rules, a.variation); return list(n, e) }},
		{"CheckClients", "C", func(a arguments) []any { _, e := CheckClients(a.clients); return list(e) }},
		{"IsFor", "cn", func(a arguments) []any { is, e := IsFor(a.client, a.notice); return list(is, e) }},
		{"ReceiversOf", "Cn", func(a arguments) []any { l, e := ReceiversOf(a.clients, a.notice); return list(l, e) }},
		{"NoticesFor", "cN", func(a arguments) []any { l, e := NoticesFor(a.client, a.notices); return list(l, e) }},
		{"CheckStore", "S", func(a arguments) []any { _, e := CheckStore(a.store); return list(e) }},
		{"Received", "Sm", func(a arguments) []any { l, e := Received(a.store, a.message); return list(l, e) }},
		{"NewestOf", "l", func(a arguments) []any { l, _, e := NewestOf(a.list); return list(l, e) }},
		{"CheckLink", "x", func(a arguments) []any { return list(CheckLink(a.link)) }},
		{"Moved", "xo", func(a arguments) []any { x, e := Moved(a.link, a.move); return list(x, e) }},
		{"RunOf", "xO", func(a arguments) []any { x, _, e := RunOf(a.link, a.moves); return list(x, e) }},
		{"PendingIn", "x", func(a arguments) []any { l, e := PendingIn(a.link); return list(l, e) }},
		{"FlushOf", "x", func(a arguments) []any { l, e := FlushOf(a.link); return list(l, e) }},
		{"ParseRules", "T", func(a arguments) []any { r, e := ParseRules(a.text); return list(r, e) }},
		{"ParseMessage", "L", func(a arguments) []any { m, e := ParseMessage(a.line); return list(m, e) }},
	}
}

// spoiled is a change of an argument, and the error that it causes.
type spoiled struct {
	change func(a *arguments)
	e      api.Errno
}

// badArguments returns for each letter of an argument what it may be wrong in.
func badArguments() map[string][]spoiled {
	bad := map[string][]spoiled{}
	add := func(letter string, e api.Errno, change func(a *arguments)) {
		bad[letter] = append(bad[letter], spoiled{change, e})
	}
	for _, x := range badRules() {
		add("r", x.e, func(a *arguments) { a.rules = x.r })
	}
	for _, x := range badStates() {
		add("s", x.e, func(a *arguments) { a.state = x.s })
	}
	for _, n := range outsideOf(-1000000, 1000000) {
		add("v", api.ErrRange, func(a *arguments) { a.value = n })
	}
	for _, n := range outsideOf(0, 1000000000) {
		add("d", api.ErrRange, func(a *arguments) { a.variation = n })
	}
	for _, x := range badValues() {
		add("V", x.e, func(a *arguments) { a.values = x.values })
	}
	add("T", api.ErrSyntax, func(a *arguments) { a.text = "storm 2 50" })
	add("L", api.ErrSyntax, func(a *arguments) { a.line = "a 3" })
	addSubscriptions(add)
	addMessages(add)
	return bad
}

func addSubscriptions(add func(letter string, e api.Errno, change func(a *arguments))) {
	for _, x := range badClientLists() {
		add("C", x.e, func(a *arguments) { a.clients = x.l })
	}
	for _, x := range badClients() {
		add("c", x.e, func(a *arguments) { a.client = x.c })
	}
	for _, x := range badNotices() {
		if len(x.l) == 1 {
			add("n", x.e, func(a *arguments) { a.notice = x.l[0] })
		}
		add("N", x.e, func(a *arguments) { a.notices = x.l })
	}
}

func addMessages(add func(letter string, e api.Errno, change func(a *arguments))) {
	for _, x := range badStores() {
		add("S", x.e, func(a *arguments) { a.store = x.l })
	}
	for _, x := range badMessages() {
		add("m", x.e, func(a *arguments) { a.message = x.m })
		add("l", x.e, func(a *arguments) { a.list = append(a.list, x.m) })
	}
	add("m", api.ErrClash, func(a *arguments) { a.message = message("a", 3, 1) })
	add("l", api.ErrLarge, func(a *arguments) { a.list = make([]api.WarnMessage, 201) })
	add("l", api.ErrClash, func(a *arguments) { a.list = append(a.list, message("a", 3, 1)) })
	add("l", api.ErrFull, func(a *arguments) { a.list = append(fullStore(), message("z", 3, 1)) })
	for _, x := range badLinks() {
		add("x", x.e, func(a *arguments) { a.link = x.x })
	}
	for _, x := range badMoves() {
		add("o", x.e, func(a *arguments) { a.move = x.m })
		add("O", x.e, func(a *arguments) { a.moves = []api.WarnMove{x.m, {Kind: -1}} })
	}
	add("O", api.ErrLarge, func(a *arguments) { a.moves = make([]api.WarnMove, 201) })
}

// P8.1 to P8.6: the errors of arguments.
func TestErrorsOfArguments(t *testing.T) {
	bad := badArguments()
	for _, call := range allCalls() {
		got := call.run(goodArguments())
		want(t, call.name, got[len(got)-1], api.OK)
		for letter, list := range bad {
			for _, x := range list {
				a := goodArguments()
				x.change(&a)
				if got := call.run(a); strings.Contains(call.order, letter) {
					refused(t, call.name+" with a bad "+letter, x.e, got...)
				} else {
					want(t, call.name+" with a bad argument that it has not", got[len(got)-1], api.OK)
				}
			}
		}
	}
}

// R1, R9: of the errors of two arguments the first one is returned.
func TestErrorsInOrder(t *testing.T) {
	bad := badArguments()
	for letter, list := range bad {
		slices.SortStableFunc(list, func(a, b spoiled) int { return int(a.e - b.e) })
		bad[letter] = slices.CompactFunc(list, func(a, b spoiled) bool { return a.e == b.e })
	}
	for _, call := range allCalls() {
		for i := range len(call.order) {
			for j := range i {
				for _, first := range bad[call.order[j:j+1]] {
					for _, second := range bad[call.order[i:i+1]] {
						a := goodArguments()
						second.change(&a)
						first.change(&a)
						refused(t, call.name+" with two errors", first.e, call.run(a)...)
					}
				}
			}
		}
	}
}

// The errors of a link come before what cannot be made of it.
func TestErrorsOfResultsAreLast(t *testing.T) {
	clash := api.WarnLink{Box: messages("a 1 1"), Store: messages("a 1 2")}
	for _, x := range badMessages() {
		clash.Wire = []api.WarnPacket{sent(x.m)}
		moves, e := FlushOf(clash)
		refused(t, "FlushOf", x.e, moves, e)
	}
	for _, x := range badStores() {
		moves, e := FlushOf(api.WarnLink{Box: messages("z 1 1"), Store: x.l})
		refused(t, "FlushOf", x.e, moves, e)
		store, e := Received(x.l, message("z", 1, 1))
		refused(t, "Received", x.e, store, e)
	}
}

// Numbers at their limits are not refused.
func TestNumbersAtLimits(t *testing.T) {
	for _, value := range []int{-1000000, 1000000} {
		_, e := LevelFrom(exampleRules(), value)
		_, o := StepOf(exampleRules(), state(2, 1, 999999), value)
		_, u := EventsOf(exampleRules(), []int{value})
		want(t, "a value", results(e, o, u), results(api.OK, api.OK, api.OK))
	}
	for _, variation := range []int{0, 1000000000} {
		_, e := OpeningsBound(exampleRules(), variation)
		want(t, "a variation", e, api.OK)
	}
	for _, m := range messages("a 1 0", "a 1 4", "a 1000000 0", "a 1000000 4") {
		_, e := Received(nil, m)
		_, o := Moved(api.WarnLink{Wire: []api.WarnPacket{sent(m)}}, put(m))
		want(t, "a message", results(e, o), results(api.OK, api.OK))
	}
}
