package warn

import (
	"fmt"
	"testing"

	"skywave/api"
)

// spoilLink overwrites all memory of a link.
func spoilLink(x api.WarnLink) {
	spoil(x.Box, message("x", 7, 7))
	spoil(x.Wire, sent(message("x", 7, 7)))
	spoil(x.Store, message("x", 7, 7))
}

// manyMoves are moves of each kind that are possible in the example's link; the last one changes nothing.
func manyMoves() []api.WarnMove {
	return []api.WarnMove{
		put(message("aa", 1, 1)), put(message("a", 3, 1)), send(0), lose(1), double(0), take(0), take(1), take(2), put(message("a", 1, 1)),
	}
}

// R3: results share memory neither with arguments nor with one another, and arguments are not modified.

func TestArgumentsStay(t *testing.T) {
	a := goodArguments()
	show := func() string { return fmt.Sprint(a) }
	before := show()
	for _, call := range allCalls() {
		call.run(a)
		want(t, "arguments after "+call.name, show(), before)
	}
	FormatRules(a.rules)
	FormatMessage(a.message)
	want(t, "arguments after all calls", show(), before)

	events, _ := EventsOf(a.rules, a.values)
	names, _ := ReceiversOf(a.clients, a.notice)
	indexes, _ := NoticesFor(a.client, a.notices)
	newest, _, _ := NewestOf(a.list)
	pending, _ := PendingIn(a.link)
	moves, _ := FlushOf(a.link)
	parsed, _ := ParseRules(a.text)
	for _, m := range messages("a 4 1", "a 1 1", "aa 1 1") {
		store, _ := Received(a.store, m)
		spoil(store, message("x", 7, 7))
	}
	for _, m := range manyMoves() {
		after, e := Moved(a.link, m)
		want(t, "the error of Moved", e, api.OK)
		spoilLink(after)
		after, _, _ = RunOf(a.link, []api.WarnMove{m, m})
		spoilLink(after)
	}
	after, _, _ := RunOf(a.link, nil)
	spoilLink(after)
	spoil(events, event(7, 7, 7, 7))
	spoil(names, "x")
	spoil(indexes, 7)
	spoil(newest, message("x", 7, 7))
	spoil(pending, "x")
	spoil(moves, put(message("x", 7, 7)))
	spoil(parsed.Up, 7)
	want(t, "the other thresholds", parsed.Down, []int{40, 65})
	spoil(parsed.Down, 7)
	want(t, "arguments after results were changed", show(), before)
}

// The stores of a result are apart, even if those of the argument are the same.
func TestStoresAreApart(t *testing.T) {
	l := messages("a 1 1", "b 1 1")
	for _, m := range []api.WarnMove{put(message("a", 2, 1)), put(message("a", 1, 1)), send(0), take(0), take(1)} {
		x := api.WarnLink{Box: l, Store: l, Wire: []api.WarnPacket{sent(message("a", 1, 1)), acknowledged(message("x", 1, 1))}}
		after, e := Moved(x, m)
		want(t, "the error of Moved", e, api.OK)
		store := fmt.Sprint(after.Store)
		spoil(after.Box, message("x", 7, 7))
		want(t, "the store", fmt.Sprint(after.Store), store)
		spoil(after.Store, message("x", 7, 7))
		want(t, "both stores of the argument", l, messages("a 1 1", "b 1 1"))
	}
}

// R3: memory beyond the end of a list is not touched.
func TestSpareMemoryStays(t *testing.T) {
	a := goodArguments()
	spare := message("x", 7, 7)
	box, store := append(a.link.Box, spare), append(a.link.Store, spare)
	wire := append(a.link.Wire, sent(spare))
	list, other := append(a.list, spare), append(a.store, spare)
	values := append(a.values, 7)
	a.link = api.WarnLink{Box: box[:2], Wire: wire[:3], Store: store[:2]}
	a.list, a.store, a.values = list[:4], other[:2], values[:7]
	for _, m := range manyMoves() {
		a.move = m
		a.message = message("zz", 1, 1)
		for _, call := range allCalls() {
			got := call.run(a)
			want(t, call.name, got[len(got)-1], api.OK)
		}
	}
	RunOf(a.link, manyMoves())
	want(t, "what is behind the lists",
		results(box[2], wire[3], store[2], list[4], other[2], values[7]),
		results(spare, sent(spare), spare, spare, spare, 7))
}

// R4: a call does not depend on what was done with the results of an earlier one.
func TestResultsAreNew(t *testing.T) {
	a := goodArguments()
	for range 2 {
		events, _ := EventsOf(a.rules, a.values)
		want(t, "EventsOf", events, []api.WarnEvent{event(1, api.WarnOpened, 1, 1), event(6, api.WarnClosed, 0, 2)})
		spoil(events, event(7, 7, 7, 7))
		newest, _, _ := NewestOf(a.list)
		want(t, "NewestOf", newest, messages("a 3 0", "b 1 2"))
		spoil(newest, message("x", 7, 7))
		after, _ := Moved(a.link, send(0))
		want(t, "Moved", len(after.Wire), 4)
		spoilLink(after)
		moves, _ := FlushOf(a.link)
		checkFlush(t, a.link, moves)
		spoil(moves, lose(7))
	}
}

// A range over changes may be left early.
func TestRangesAreLeft(t *testing.T) {
	c, _ := checked(exampleRules())
	for most := 1; most <= 2; most++ {
		count := 0
		for range c.changes([]int{50, 80, 30, 30, 50}) {
			count++
			if count == most {
				break
			}
		}
		want(t, "changes", count, most)
	}
}
