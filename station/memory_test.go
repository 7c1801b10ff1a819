package station

import (
	"fmt"
	"testing"

	"skywave/api"
)

// R3: results share memory neither with arguments nor with one another, and arguments are not modified.

func TestArgumentsStay(t *testing.T) {
	a := goodArguments()
	show := func() string { return fmt.Sprint(a) }
	before := show()
	for _, call := range allCalls() {
		call.run(a)
		want(t, "arguments after "+call.name, show(), before)
	}
	FormatBlock(a.block)
	want(t, "arguments after all calls", show(), before)

	for _, capacity := range []int{0, 60, 100, 200000} {
		after, dropped, _ := Put(a.queue, a.item, capacity)
		spoil(after, item("x", 7, 7, 7))
		spoil(dropped, "x")
	}
	order, _ := OrderOf(a.queue)
	spoil(order, 7)
	ends, _ := SentBy(a.queue, a.link)
	spoil(ends, 7)
	blocks, _ := BlocksOf(a.text, a.size)
	spoil(blocks, api.StationBlock{})
	missing, _ := MissingIn(a.blocks[:1], a.count)
	spoil(missing, 7)
	for _, others := range [][]api.StationRecord{a.others, nil} {
		merged, _ := Merged(a.records, others)
		spoil(merged, record("x", 7, "x"))
		merged, _ = Merged(others, a.records)
		spoil(merged, record("x", 7, "x"))
	}
	slots, _, _ := PlanFor(a.net)
	spoil(slots, 7)
	group, _ := GroupOf(a.net)
	spoil(group, 7)
	want(t, "arguments after results were changed", show(), before)
}

// Series that are packed in each way, and unpacked, have memory of their own.
func TestSeriesAreApart(t *testing.T) {
	for _, l := range [][]int{{7, 7}, {1, 2, 3, 4}, {5, 5, 5}} {
		before := fmt.Sprint(l)
		p, e := Packed(l)
		want(t, "the error of Packed", e, api.OK)
		written := fmt.Sprint(p)
		again, _ := Unpacked(p)
		spoil(again, 9)
		want(t, "a packed series after the series was changed", fmt.Sprint(p), written)
		spoil(p.Numbers, 9)
		want(t, "a series after the packed one was changed", fmt.Sprint(l), before)
	}
}

// R3: memory beyond the end of a list is not touched.
func TestSpareMemoryStays(t *testing.T) {
	a := goodArguments()
	exchanges, apart := append(a.exchanges, exchange(7, 7, 7)), append(a.apart, exchange(7, 7, 7))
	queue := append(a.queue, item("x", 7, 7, 7))
	series, packedNumbers := append(a.series, 7), append(a.packed.Numbers, 7)
	blocks := append(a.blocks, api.StationBlock{Check: 7})
	records, others := append(a.records, record("x", 7, "x")), append(a.others, record("x", 7, "x"))
	pairs, slots := append(a.net.Pairs, [2]int{7, 7}), append(a.slots, 7)
	a.exchanges, a.apart, a.queue = exchanges[:2], apart[:2], queue[:2]
	a.series, a.packed.Numbers, a.blocks = series[:7], packedNumbers[:4], blocks[:2]
	a.records, a.others, a.net.Pairs, a.slots = records[:2], others[:2], pairs[:4], slots[:4]
	for _, way := range []int{api.StationPlain, api.StationDifferences, api.StationRuns} {
		a.packed.Way = way
		for _, call := range allCalls() {
			got := call.run(a)
			want(t, call.name, got[len(got)-1], api.OK)
		}
	}
	want(t, "what is behind the lists",
		results(exchanges[2], apart[2], queue[2], series[7], packedNumbers[4], blocks[2], records[2], others[2], pairs[4], slots[4]),
		results(exchange(7, 7, 7), exchange(7, 7, 7), item("x", 7, 7, 7), 7, 7, api.StationBlock{Check: 7}, record("x", 7, "x"), record("x", 7, "x"), [2]int{7, 7}, 7))
}

// R4: a call does not depend on what was done with the results of an earlier one.
func TestResultsAreNew(t *testing.T) {
	a := goodArguments()
	for range 2 {
		after, dropped, _ := Put(a.queue, a.item, a.capacity)
		want(t, "Put", results(after, dropped), results([]api.StationItem{a.queue[1], a.item}, []string{"a"}))
		spoil(after, item("x", 7, 7, 7))
		spoil(dropped, "x")
		p, _ := Packed(a.series)
		want(t, "Packed", p, a.packed)
		spoil(p.Numbers, 7)
		l, _ := Unpacked(a.packed)
		want(t, "Unpacked", l, a.series)
		spoil(l, 7)
		blocks, _ := BlocksOf(a.text, a.size)
		want(t, "BlocksOf", blocks, exampleBlocks())
		spoil(blocks, api.StationBlock{})
		slots, _, _ := PlanFor(a.net)
		want(t, "PlanFor", slots, []int{0, 1, 0, 1})
		spoil(slots, 7)
		group, _ := GroupOf(a.net)
		want(t, "GroupOf", group, []int{0, 1})
		spoil(group, 7)
	}
}

// A range over runs or blocks may be left early.
func TestRangesAreLeft(t *testing.T) {
	for most := 1; most <= 2; most++ {
		found := 0
		for range runs([]int{5, 5, 6, 7}) {
			found++
			if found == most {
				break
			}
		}
		blocks := 0
		for range soundBlocks(append(exampleBlocks(), exampleBlocks()...), 2) {
			blocks++
			if blocks == most {
				break
			}
		}
		want(t, "runs and blocks", results(found, blocks), results(most, most))
	}
}
