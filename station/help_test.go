package station

import (
	"fmt"
	"math"
	"reflect"
	"slices"
	"strconv"
	"strings"
	"testing"

	"skywave/api"
)

// want compares results with those that are expected; nil and empty slices are equal.
func want(t *testing.T, what string, got, expected any) {
	t.Helper()
	if fmt.Sprintf("%v", got) != fmt.Sprintf("%v", expected) {
		t.Errorf("%s: %v, want %v", what, got, expected)
	}
}

// results lists several results of one call.
func results(list ...any) []any { return list }

// refused checks that a call returned an error, and zero values beside it.
func refused(t *testing.T, what string, expected api.Errno, got ...any) {
	t.Helper()
	last := len(got) - 1
	if got[last] != expected {
		t.Errorf("%s: error %v, want %v", what, got[last], expected)
	}
	for _, x := range got[:last] {
		v := reflect.ValueOf(x)
		if !v.IsZero() && !(v.Kind() == reflect.Slice && v.Len() == 0) {
			t.Errorf("%s: %v beside the error %v", what, x, expected)
		}
	}
}

// numbers returns a sequence of numbers from 0 to size - 1, which looks irregular and is always the same.
func numbers(seed int) func(size int) int {
	state := uint32(seed)*2654435761 + 12345
	return func(size int) int {
		state = state*1664525 + 1013904223
		return int(state>>8) % size
	}
}

// outsideOf returns numbers that are not from least to most, among them some at which arithmetic of words overflows.
func outsideOf(least, most int) []int {
	return []int{least - 1, most + 1, math.MinInt, math.MinInt + 1, math.MaxInt - 1, math.MaxInt, 1 << 43, 1<<43 + 5, -1 << 43}
}

// spoil overwrites a list as far as its memory reaches.
func spoil[T any](list []T, item T) {
	list = list[:cap(list)]
	for i := range list {
		list[i] = item
	}
}

func manyOf[T any](item T, size int) []T { return slices.Repeat([]T{item}, size) }

// start returns the start of a string that may be long.
func start(s string) string { return s[:min(len(s), 60)] }

func goodNames() []string {
	return []string{"a", "z", "A", "Z", "m", "a-", "B--", "c0", "d9", "E-5x", "abcdefghijkl", "north", "Z9-zA0a--"}
}

func badNames() []string {
	list := []string{"", " ", "-", "-a", "0", "9a", "abcdefghijklm", strings.Repeat("a", 60000), "ä", "aä", "a\n", "\x00", "a\xff", "a\x00"}
	for _, near := range []string{"@", "[", "`", "{", "/", ":", ",", ".", "_", "+", " "} {
		list = append(list, near, near+"a", "a"+near, "a"+near+"a", "abcdefghijk"+near)
	}
	return list
}

// named returns different names.
func named(size int) []string {
	var list []string
	for i := range size {
		list = append(list, fmt.Sprintf("n%04d", i))
	}
	return list
}

func rangeOf(lo, hi int) api.Range { return api.Range{Lo: lo, Hi: hi} }

func exchange(sent, at, received int) api.StationExchange {
	return api.StationExchange{Sent: sent, True: at, Received: received}
}

// exampleExchanges are those of the chapter's example 2, which agree.
func exampleExchanges() []api.StationExchange {
	return []api.StationExchange{exchange(100, 505, 110), exchange(200, 600, 204)}
}

// refusedExchange is an exchange, and the error with which it is refused.
type refusedExchange struct {
	x api.StationExchange
	e api.Errno
}

func badExchanges() []refusedExchange {
	var list []refusedExchange
	for _, n := range outsideOf(0, 1000000000000) {
		for _, x := range []api.StationExchange{
			exchange(n, 505, 1000000000000), exchange(100, n, 110), exchange(0, 505, n), exchange(n, n, n), exchange(n, 505, 0), exchange(7, n, 6), exchange(1000000000000, 505, n),
		} {
			list = append(list, refusedExchange{x, api.ErrRange})
		}
	}
	return append(list,
		refusedExchange{exchange(110, 505, 109), api.ErrOrder},
		refusedExchange{exchange(1, 0, 0), api.ErrOrder},
		refusedExchange{exchange(1000000000000, 1000000000000, 0), api.ErrOrder},
		refusedExchange{exchange(1000000000000, 0, 999999999999), api.ErrOrder},
	)
}

// refusedExchanges are exchanges, and the error with which they are refused.
type refusedExchanges struct {
	l []api.StationExchange
	e api.Errno
}

func badExchangeLists() []refusedExchanges {
	good := exchange(100, 505, 110)
	list := []refusedExchanges{
		{nil, api.ErrShape},
		{[]api.StationExchange{}, api.ErrShape},
		{manyOf(good, 21), api.ErrLarge},
		{manyOf(exchange(1, 0, 0), 21), api.ErrLarge},
		{manyOf(exchange(-1, 0, 0), 60000), api.ErrLarge},
	}
	for _, x := range badExchanges() {
		other := exchange(-1, 0, 0)
		if x.e == api.ErrRange {
			other = exchange(1, 0, 0)
		}
		for _, l := range [][]api.StationExchange{{x.x}, {good, x.x}, {x.x, good}, {x.x, other}, {good, x.x, other}, append(manyOf(good, 19), x.x)} {
			list = append(list, refusedExchanges{l, x.e})
		}
	}
	return list
}

func item(name string, priority, size, tick int) api.StationItem {
	return api.StationItem{Name: name, Priority: priority, Size: size, Tick: tick}
}

// exampleQueue is that of the chapter's example 3.
func exampleQueue() []api.StationItem {
	return []api.StationItem{item("a", 1, 50, 5), item("b", 2, 30, 7)}
}

// irregularQueue returns a valid queue with few priorities and ticks.
func irregularQueue(seed, most int) []api.StationItem {
	next := numbers(seed + 300)
	sizes := []int{3, 100, 10000}[seed%3]
	var q []api.StationItem
	for _, name := range named(next(most + 1)) {
		q = append(q, item(name, next(1+seed%4), 1+next(sizes), next(1+seed%5)))
	}
	return q
}

// goodQueues are valid queues.
func goodQueues() [][]api.StationItem {
	list := [][]api.StationItem{nil, {}, exampleQueue(), {item("a", 0, 1, 0)}, {item("abcdefghijkl", 9, 10000, 1000000000000)}}
	var same, greatest []api.StationItem
	for i, name := range named(20) {
		same = append(same, item(name, 3, 7, 5))
		greatest = append(greatest, item(name, i%10, 10000, 1000000000000-i))
	}
	list = append(list, same, greatest, same[:19], greatest[1:])
	for seed := range 80 {
		list = append(list, irregularQueue(seed, 20))
	}
	return list
}

// refusedItem is an item, and the error with which it is refused.
type refusedItem struct {
	x api.StationItem
	e api.Errno
}

// badItems are items that are refused, some of them only behind an item with the name a.
func badItems() []refusedItem {
	var list []refusedItem
	add := func(e api.Errno, l ...api.StationItem) {
		for _, x := range l {
			list = append(list, refusedItem{x, e})
		}
	}
	for _, name := range badNames() {
		add(api.ErrName, item(name, 1, 1, 1), item(name, 10, 0, -1))
	}
	add(api.ErrExists, item("a", 1, 50, 5), item("a", 0, 1, 0), item("a", -1, 0, -1))
	for _, n := range outsideOf(0, 9) {
		add(api.ErrRange, item("z", n, 1, 1), item("z", n, 0, -1))
	}
	for _, n := range outsideOf(1, 10000) {
		add(api.ErrRange, item("z", 1, n, 1), item("z", 9, n, 0))
	}
	for _, n := range outsideOf(0, 1000000000000) {
		add(api.ErrRange, item("z", 1, 1, n), item("z", 0, 10000, n))
	}
	return list
}

// refusedQueue is a queue, and the index and the error with which it is refused.
type refusedQueue struct {
	q     []api.StationItem
	index int
	e     api.Errno
}

func badQueues() []refusedQueue {
	list := []refusedQueue{
		{make([]api.StationItem, 21), 0, api.ErrLarge},
		{manyOf(item("a", 1, 1, 1), 60000), 0, api.ErrLarge},
	}
	var many []api.StationItem
	for _, name := range named(21) {
		many = append(many, item(name, 1, 1, 1))
	}
	list = append(list, refusedQueue{many, 0, api.ErrLarge})
	a, b := item("a", 1, 1, 1), item("b", 2, 2, 2)
	for _, x := range badItems() {
		list = append(list,
			refusedQueue{[]api.StationItem{a, x.x}, 1, x.e},
			refusedQueue{[]api.StationItem{a, x.x, {}}, 1, x.e},
			refusedQueue{[]api.StationItem{b, a, x.x, b, a}, 2, x.e},
			refusedQueue{append(append([]api.StationItem{a}, many[:18]...), x.x), 19, x.e})
		if x.e != api.ErrExists {
			list = append(list,
				refusedQueue{[]api.StationItem{x.x}, 0, x.e},
				refusedQueue{[]api.StationItem{x.x, a, a}, 0, x.e})
		}
	}
	return append(list, refusedQueue{append(slices.Clone(many[:19]), many[18]), 19, api.ErrExists})
}

// refusedSeries is a series, and the error with which it is refused.
type refusedSeries struct {
	l []int
	e api.Errno
}

func badSeries() []refusedSeries {
	list := []refusedSeries{
		{make([]int, 201), api.ErrLarge},
		{make([]int, 60000), api.ErrLarge},
		{manyOf(math.MinInt, 201), api.ErrLarge},
	}
	for _, n := range outsideOf(-1000000000, 1000000000) {
		for _, l := range [][]int{{n}, {1, n}, {n, 1}, {1, n, n, 2}, append(make([]int, 199), n)} {
			list = append(list, refusedSeries{l, api.ErrRange})
		}
	}
	return list
}

func packed(way int, numbers ...int) api.StationPacked {
	return api.StationPacked{Way: way, Numbers: numbers}
}

// refusedPacked is a packed series, and the error with which it is refused.
type refusedPacked struct {
	p api.StationPacked
	e api.Errno
}

func badPacked() []refusedPacked {
	var list []refusedPacked
	add := func(e api.Errno, way int, lists ...[]int) {
		for _, l := range lists {
			list = append(list, refusedPacked{packed(way, l...), e})
		}
	}
	for _, way := range outsideOf(0, 2) {
		add(api.ErrKind, way, nil, []int{5, 6}, []int{5}, []int{1, 0, 7}, make([]int, 401))
	}
	for way := range 3 {
		add(api.ErrLarge, way, make([]int, 401), make([]int, 402), manyOf(math.MinInt, 60000), manyOf(1, 401))
	}
	add(api.ErrLarge, 0, make([]int, 201), make([]int, 400), manyOf(math.MaxInt, 201), manyOf(1, 399))
	for _, n := range outsideOf(-1000000000, 1000000000) {
		add(api.ErrRange, 0, []int{n}, []int{1, n}, []int{n, 1, 2}, append(make([]int, 199), n))
		add(api.ErrRange, 2, []int{n, 1}, []int{1, 1, n, 1}, []int{n, 200}, []int{n, 2, 1, 1}, []int{0, 199, n, 1})
		add(api.ErrRange, 1, []int{n, 1}, []int{n, 1, -n, 1}, []int{n, 200}, []int{0, 199, n, 1}, []int{0, 5, n, 1, -n, 1, 0, 1})
	}
	for _, way := range []int{1, 2} {
		add(api.ErrShape, way, []int{1}, []int{1, 1, 1}, []int{1, 0, 1}, []int{math.MinInt}, manyOf(1, 399), manyOf(0, 399))
		for _, count := range outsideOf(1, 200) {
			add(api.ErrRange, way, []int{1, count}, []int{1, 1, 1, count}, []int{1, count, 1, 1}, []int{1, 200, 1, count}, []int{1, 200, 1, 200, 1, count}, []int{math.MaxInt, 200, 1, 200, 0, count}, append(manyOf(1, 399), count))
		}
		add(api.ErrLarge, way, []int{1, 200, 1, 1}, []int{1, 1, 1, 200}, []int{0, 101, 1, 100}, []int{math.MinInt, 200, math.MaxInt, 200}, manyOf(200, 400), slices.Concat(manyOf(1, 398), []int{1, 2}))
	}
	return append(list, badDifferences()...)
}

// badDifferences are differences that lead beyond the greatest numbers, some of them only for a while.
func badDifferences() []refusedPacked {
	var list []refusedPacked
	for _, l := range [][]int{
		{1000000000, 1, 1, 1}, {-1000000000, 1, -1, 1}, {1000000000, 2}, {-1000000000, 2}, {1000000000, 1, 1, 1, -1, 1},
		{-1000000000, 1, -1, 1, 1, 1}, {500000000, 3}, {500000000, 3, -500000000, 3}, {5000001, 200}, {-5000001, 200},
		{1000000000, 1, -2000000001, 1}, {-1000000000, 1, 2000000001, 1}, {1, 1, math.MaxInt, 1}, {-1, 1, math.MinInt, 1},
		{1000000000, 1, math.MaxInt, 1}, {-1000000000, 1, math.MinInt, 1}, {1000000000, 1, math.MinInt, 1}, {-1000000000, 1, math.MaxInt, 1},
		{math.MaxInt, 2}, {math.MinInt, 2}, {1, 1, math.MaxInt, 2}, {1, 1, math.MinInt, 2},
	} {
		list = append(list, refusedPacked{packed(api.StationDifferences, l...), api.ErrRange})
	}
	return list
}

// soundBlock returns a block with the right check.
func soundBlock(number, count int, body string) api.StationBlock {
	check := checkByDefinition(fmt.Sprintf("%d %d %s", number, count, body))
	return api.StationBlock{Number: number, Count: count, Check: check, Body: body}
}

// exampleBlocks are those of the chapter's example 6.
func exampleBlocks() []api.StationBlock {
	return []api.StationBlock{soundBlock(0, 2, "ab"), soundBlock(1, 2, "c")}
}

// refusedBlocks are blocks that were received, and the error with which they are refused.
type refusedBlocks struct {
	l []api.StationBlock
	e api.Errno
}

func badBlocks() []refusedBlocks {
	good, large := soundBlock(0, 2, "ab"), api.StationBlock{Body: strings.Repeat("a", 1001)}
	larger := soundBlock(1, 2, strings.Repeat("a", 3000))
	list := []refusedBlocks{
		{manyOf(good, 61), api.ErrLarge},
		{make([]api.StationBlock, 60000), api.ErrLarge},
	}
	for _, x := range []api.StationBlock{large, larger} {
		for _, l := range [][]api.StationBlock{{x}, {good, x}, {x, good}, append(manyOf(good, 59), x)} {
			list = append(list, refusedBlocks{l, api.ErrLarge})
		}
	}
	return list
}

func record(name string, version int, body string) api.StationRecord {
	return api.StationRecord{Name: name, Version: version, Body: body}
}

// irregularRecords returns valid records of few names and versions.
func irregularRecords(seed, most int) []api.StationRecord {
	next := numbers(seed + 500)
	names := append(named(1+next(60)), "A", "a", "a-", "a0")
	bodies := []string{"", "a", "b", "ab", "aa", "\xff", "\x00", "a\x00", strings.Repeat("b", 1000)}
	var l []api.StationRecord
	for range next(most + 1) {
		l = append(l, record(names[next(len(names))], next(3), bodies[next(len(bodies))]))
	}
	return l
}

// refusedRecords are records, and the error with which they are refused.
type refusedRecords struct {
	l []api.StationRecord
	e api.Errno
}

func badRecords() []refusedRecords {
	good, large := record("a", 1, "b"), strings.Repeat("b", 1001)
	list := []refusedRecords{
		{manyOf(good, 31), api.ErrLarge},
		{make([]api.StationRecord, 31), api.ErrLarge},
		{make([]api.StationRecord, 60000), api.ErrLarge},
	}
	add := func(e api.Errno, x api.StationRecord) {
		for _, l := range [][]api.StationRecord{{x}, {good, x}, {x, good}, append(manyOf(good, 29), x)} {
			list = append(list, refusedRecords{l, e})
		}
	}
	for _, name := range badNames() {
		add(api.ErrName, record(name, 1, "b"))
		add(api.ErrName, record(name, -1, large))
	}
	for _, n := range outsideOf(0, 1000000000000) {
		add(api.ErrRange, record("a", n, ""))
		add(api.ErrRange, record("a", n, large))
	}
	add(api.ErrLarge, record("a", 0, large))
	add(api.ErrLarge, record("a", 1000000000000, strings.Repeat("b", 60000)))
	return append(list,
		refusedRecords{[]api.StationRecord{record("", 1, "b"), record("a", -1, "b")}, api.ErrName},
		refusedRecords{[]api.StationRecord{record("a", -1, "b"), record("", 1, "b")}, api.ErrRange},
		refusedRecords{[]api.StationRecord{record("a", 1, large), record("", 1, "b")}, api.ErrLarge},
	)
}

// net returns a net with pairs.
func net(stations int, pairs ...[2]int) api.StationNet {
	return api.StationNet{Stations: stations, Pairs: pairs}
}

// ring is the net of the chapter's example 9.
func ring() api.StationNet {
	return net(4, [2]int{0, 1}, [2]int{1, 2}, [2]int{2, 3}, [2]int{0, 3})
}

// pairsOf returns all pairs of stations.
func pairsOf(stations int) [][2]int {
	var pairs [][2]int
	for j := range stations {
		for i := range j {
			pairs = append(pairs, [2]int{i, j})
		}
	}
	return pairs
}

// netOf returns the net with those pairs whose bits are 1.
func netOf(stations, bits int) api.StationNet {
	n := api.StationNet{Stations: stations}
	for i, pair := range pairsOf(stations) {
		if bits>>i&1 == 1 {
			n.Pairs = append(n.Pairs, pair)
		}
	}
	return n
}

// goodNets are valid nets, among them all with at most five stations.
func goodNets() []api.StationNet {
	var list []api.StationNet
	for stations := 1; stations <= 5; stations++ {
		for bits := range 1 << (stations * (stations - 1) / 2) {
			list = append(list, netOf(stations, bits))
		}
	}
	for seed := range 150 {
		next := numbers(seed + 900)
		stations, share := 6+seed%3, 1+next(4)
		n := api.StationNet{Stations: stations}
		for _, pair := range pairsOf(stations) {
			if next(5) < share {
				n.Pairs = append(n.Pairs, pair)
			}
		}
		for i := range n.Pairs {
			j := next(i + 1)
			n.Pairs[i], n.Pairs[j] = n.Pairs[j], n.Pairs[i]
		}
		list = append(list, n)
	}
	return append(list, net(8), net(8, pairsOf(8)...), net(8, pairsOf(7)...))
}

// refusedNet is a net, and the index and the error with which it is refused.
type refusedNet struct {
	n     api.StationNet
	index int
	e     api.Errno
}

func badNets() []refusedNet {
	var list []refusedNet
	add := func(index int, e api.Errno, n api.StationNet) { list = append(list, refusedNet{n, index, e}) }
	for _, stations := range outsideOf(1, 8) {
		add(0, api.ErrRange, net(stations))
		add(0, api.ErrRange, net(stations, pairsOf(4)...))
		add(0, api.ErrRange, net(stations, make([][2]int, 29)...))
		add(0, api.ErrRange, net(stations, [2]int{-1, 1}))
	}
	add(0, api.ErrLarge, net(8, pairsOf(9)...))
	add(0, api.ErrLarge, net(1, make([][2]int, 29)...))
	add(0, api.ErrLarge, net(8, append(pairsOf(8), [2]int{0, 1})...))
	add(0, api.ErrLarge, net(8, manyOf([2]int{-1, 9}, 60000)...))
	for stations := 1; stations <= 8; stations++ {
		for _, n := range outsideOf(0, stations-1) {
			for _, pair := range [][2]int{{n, 0}, {0, n}, {n, n}, {n, stations - 1}, {stations - 1, n}} {
				all := pairsOf(stations)
				for i := range all {
					pairs := append(slices.Clone(all[:i]), pair, all[0])
					add(i, api.ErrMissing, net(stations, pairs[:min(len(pairs), 28)]...))
				}
				add(0, api.ErrMissing, net(stations, pair))
				add(0, api.ErrMissing, net(stations, pair, pair))
			}
		}
		for i := range stations {
			for j := range i + 1 {
				add(0, api.ErrOrder, net(stations, [2]int{i, j}))
				add(0, api.ErrOrder, net(stations, [2]int{i, j}, [2]int{i, j}, [2]int{-1, 0}))
			}
		}
	}
	add(1, api.ErrOrder, net(3, [2]int{0, 1}, [2]int{1, 0}))
	add(2, api.ErrOrder, net(3, [2]int{0, 1}, [2]int{1, 2}, [2]int{2, 2}, [2]int{0, 1}))
	add(1, api.ErrDouble, net(2, [2]int{0, 1}, [2]int{0, 1}))
	add(2, api.ErrDouble, net(3, [2]int{0, 1}, [2]int{1, 2}, [2]int{0, 1}, [2]int{1, 0}))
	add(3, api.ErrDouble, net(3, append(pairsOf(3), [2]int{1, 2})...))
	add(27, api.ErrDouble, net(8, append(slices.Clone(pairsOf(8)[:27]), [2]int{0, 1})...))
	return list
}

// badNumbers are words that are not numbers without a sign.
func badNumbers() []string {
	return []string{"", "-", "-1", "--1", "+1", "-0", "00", "01", "-01", "0x1", "1_0", "1e1", "1.", "٣", "1-", "\x001", "1/1", "1,", "x", "1234567890", "1000000000", "0000000001", strconv.Itoa(math.MinInt), "9223372036854775808", strings.Repeat("9", 300)}
}
