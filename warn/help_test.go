package warn

import (
	"fmt"
	"math"
	"reflect"
	"slices"
	"strings"
	"testing"

	"skywave/api"
)

// want compares results with those that are expected; nil and empty slices are equal.
func want(t *testing.T, what string, got, expected any) {
	t.Helper()
	if fmt.Sprintf("%v", got) != fmt.Sprintf("%v", expected) {
		t.Errorf("%s: %v, want %v", what, got, expected)
	}
}

// results lists several results of one call.
func results(list ...any) []any { return list }

// refused checks that a call returned an error, and zero values beside it.
func refused(t *testing.T, what string, expected api.Errno, got ...any) {
	t.Helper()
	last := len(got) - 1
	if got[last] != expected {
		t.Errorf("%s: error %v, want %v", what, got[last], expected)
	}
	for _, x := range got[:last] {
		v := reflect.ValueOf(x)
		if !v.IsZero() && !(v.Kind() == reflect.Slice && v.Len() == 0) {
			t.Errorf("%s: %v beside the error %v", what, x, expected)
		}
	}
}

// numbers returns a sequence of numbers from 0 to size - 1, which looks irregular and is always the same.
func numbers(seed int) func(size int) int {
	state := uint32(seed)*2654435761 + 12345
	return func(size int) int {
		state = state*1664525 + 1013904223
		return int(state>>8) % size
	}
}

// outsideOf returns numbers that are not from least to most, among them some at which arithmetic of words overflows.
func outsideOf(least, most int) []int {
	return []int{least - 1, most + 1, math.MinInt, math.MinInt + 1, math.MaxInt - 1, math.MaxInt, 1 << 43, 1<<43 + 5, -1 << 43}
}

// spoil overwrites a list as far as its memory reaches.
func spoil[T any](list []T, item T) {
	list = list[:cap(list)]
	for i := range list {
		list[i] = item
	}
}

// start returns the start of a string that may be long.
func start(s string) string { return s[:min(len(s), 60)] }

func goodNames() []string {
	return []string{"a", "z", "A", "Z", "m", "a-", "B--", "c0", "d9", "E-5x", "abcdefghijkl", "north", "Z9-zA0a--"}
}

func badNames() []string {
	list := []string{"", " ", "-", "-a", "0", "9a", "abcdefghijklm", strings.Repeat("a", 60000), "ä", "aä", "a\n", "\x00", "a\xff", "a\x00"}
	for _, near := range []string{"@", "[", "`", "{", "/", ":", ",", ".", "_", "+", " "} {
		list = append(list, near, near+"a", "a"+near, "a"+near+"a", "abcdefghijk"+near)
	}
	return list
}

// named returns different names.
func named(size int) []string {
	var list []string
	for i := range size {
		list = append(list, fmt.Sprintf("n%04d", i))
	}
	return list
}

// rules returns rules with the thresholds Up and Down of each level.
func rules(name string, hold int, thresholds ...int) api.WarnRules {
	r := api.WarnRules{Name: name, Hold: hold}
	for i := 0; i+1 < len(thresholds); i += 2 {
		r.Up, r.Down = append(r.Up, thresholds[i]), append(r.Down, thresholds[i+1])
	}
	return r
}

// exampleRules are those of the chapter's example 1.
func exampleRules() api.WarnRules { return rules("storm", 2, 50, 40, 80, 65) }

// irregularRules returns valid rules, whose thresholds are near 0 or anywhere.
func irregularRules(seed int) api.WarnRules {
	next := numbers(seed)
	most := []int{3, 10, 100000}[seed%3]
	r := api.WarnRules{Name: goodNames()[next(len(goodNames()))], Hold: 1 + next(4)}
	up, down := next(most)-most, 0
	for level := range 1 + next(4) {
		up += 1 + next(most)
		least := up - 1 - next(most)
		if level > 0 {
			least = down + 1 + next(up-down-1)
		}
		down = least
		r.Up, r.Down = append(r.Up, up), append(r.Down, down)
	}
	return r
}

// goodRules are valid rules.
func goodRules() []api.WarnRules {
	list := []api.WarnRules{
		exampleRules(),
		rules("a", 1, 0, -1),
		rules("a", 20, 1000000, -1000000),
		rules("abcdefghijkl", 1, -999999, -1000000),
		rules("Z", 3, 1000000, 999999),
		rules("z-9", 2, -999999, -1000000, -999998, -999999, 0, -999998, 1000000, 999999),
		rules("same", 2, 10, 1, 11, 2, 12, 3, 13, 4),
	}
	for seed := range 60 {
		list = append(list, irregularRules(seed))
	}
	return list
}

// refusedRules are rules, and the index and the error with which they are refused.
type refusedRules struct {
	r     api.WarnRules
	index int
	e     api.Errno
}

// badRules are rules that are refused.
func badRules() []refusedRules {
	var list []refusedRules
	add := func(index int, e api.Errno, r ...api.WarnRules) {
		for _, r := range r {
			list = append(list, refusedRules{r, index, e})
		}
	}
	add(0, api.ErrName, api.WarnRules{})
	for _, name := range badNames() {
		add(0, api.ErrName, rules(name, 2, 50, 40), rules(name, 2), rules(name, 0, 1, 2))
	}
	add(0, api.ErrShape, rules("a", 2), rules("a", 0), api.WarnRules{Name: "a", Up: []int{}, Down: []int{}, Hold: 2})
	for _, sizes := range [][2]int{{0, 1}, {1, 0}, {2, 1}, {1, 2}, {4, 3}, {3, 4}, {5, 4}, {4, 5}, {0, 60000}, {60000, 0}, {5, 6}} {
		add(0, api.ErrShape,
			api.WarnRules{Name: "a", Up: make([]int, sizes[0]), Down: make([]int, sizes[1]), Hold: 2},
			api.WarnRules{Name: "a", Up: manyOf(7, sizes[0]), Down: manyOf(1<<40, sizes[1]), Hold: 0})
	}
	for _, size := range []int{5, 6, 60000} {
		add(0, api.ErrLarge, api.WarnRules{Name: "a", Up: make([]int, size), Down: make([]int, size)})
	}
	add(0, api.ErrLarge, rules("a", 2, 10, 1, 11, 2, 12, 3, 13, 4, 14, 5), rules("a", 0, 1, 10, 1<<40, 2, 1, 3, 1, 4, 1, 5))
	for i := range 4 {
		for _, x := range badLevels(i) {
			r := rules("a", 2, 10, 1, 20, 11, 30, 21, 40, 31)
			r.Up[i], r.Down[i] = x.up, x.down
			add(i, x.e, r)
			// The errors of the next level and of Hold come later.
			r = rules("a", 0, 10, 1, 20, 11, 30, 21, 40, 31)
			r.Up[i], r.Down[i] = x.up, x.down
			if i < 3 {
				r.Up[i+1] = 1 << 40
			}
			add(i, x.e, r)
		}
	}
	for _, hold := range outsideOf(1, 20) {
		add(0, api.ErrRange, rules("a", hold, 50, 40), rules("a", hold, 50, 40, 80, 65))
	}
	return list
}

// refusedLevel is thresholds of a level, and the error with which they are refused.
type refusedLevel struct {
	up, down int
	e        api.Errno
}

// badLevels are thresholds of a level that are refused beside thresholds of the other levels that are 10 apart.
func badLevels(level int) []refusedLevel {
	up, down := 10+10*level, 1+10*level
	list := []refusedLevel{
		{up, up, api.ErrForm},
		{up, up + 1, api.ErrForm},
		{up, 1000000, api.ErrForm},
		{down, down, api.ErrForm},
		{-1000000, 1000000, api.ErrForm},
		{-1000000, -1000000, api.ErrForm},
		{1000000, 1000000, api.ErrForm},
	}
	for _, n := range outsideOf(-1000000, 1000000) {
		list = append(list, refusedLevel{n, down, api.ErrRange}, refusedLevel{up, n, api.ErrRange}, refusedLevel{n, n, api.ErrRange}, refusedLevel{-1000000, n, api.ErrRange}, refusedLevel{n, 1000000, api.ErrRange})
	}
	if level == 0 {
		return list
	}
	return append(list,
		refusedLevel{up - 10, down - 2, api.ErrOrder}, // Up is that before
		refusedLevel{up - 10, down - 10, api.ErrOrder},
		refusedLevel{up - 11, down - 3, api.ErrOrder},
		refusedLevel{up, down - 10, api.ErrOrder}, // Down is that before
		refusedLevel{up, down - 11, api.ErrOrder},
		refusedLevel{1000000, -1000000, api.ErrOrder},
		refusedLevel{-999999, -1000000, api.ErrOrder},
	)
}

func manyOf[T any](item T, size int) []T { return slices.Repeat([]T{item}, size) }

// valuesOfInterest are values at and beside the thresholds of rules, and at the limits.
func valuesOfInterest(r api.WarnRules) []int {
	list := []int{-1000000, -999999, -1, 0, 1, 999999, 1000000}
	for i, up := range r.Up {
		list = append(list, up-1, up, up+1, r.Down[i]-1, r.Down[i], r.Down[i]+1)
	}
	return slices.DeleteFunc(list, func(n int) bool { return n < -1000000 || n > 1000000 })
}

// irregularValues returns valid values, most of them near the thresholds of rules.
func irregularValues(r api.WarnRules, seed int) []int {
	next := numbers(seed + 400)
	near := valuesOfInterest(r)
	var values []int
	for range next([]int{8, 40, 501}[seed%3]) {
		value := near[next(len(near))]
		// A warning with a long hold is closed if values are repeated.
		for range 1 + next(4) {
			values = append(values, value)
		}
	}
	return values[:min(len(values), 500)]
}

// refusedValues are values, and the error with which they are refused.
type refusedValues struct {
	values []int
	e      api.Errno
}

func badValues() []refusedValues {
	list := []refusedValues{
		{make([]int, 501), api.ErrLarge},
		{make([]int, 60000), api.ErrLarge},
		{append([]int{1 << 40}, make([]int, 500)...), api.ErrLarge},
	}
	for _, n := range outsideOf(-1000000, 1000000) {
		for _, values := range [][]int{{n}, {30, n}, {n, 30}, {30, n, 55}, append(make([]int, 499), n)} {
			list = append(list, refusedValues{values, api.ErrRange})
		}
	}
	return list
}

func state(level, below, version int) api.WarnState {
	return api.WarnState{Level: level, Below: below, Version: version}
}

// statesOf returns valid states of rules.
func statesOf(r api.WarnRules) []api.WarnState {
	var list []api.WarnState
	for _, version := range []int{0, 7, 999999} {
		list = append(list, state(0, 0, version))
		for level := 1; level <= len(r.Up); level++ {
			for below := range r.Hold {
				list = append(list, state(level, below, version))
			}
		}
	}
	return list
}

// refusedState is a state, and the error with which it is refused.
type refusedState struct {
	s api.WarnState
	e api.Errno
}

// badStates are states that the example's rules refuse.
func badStates() []refusedState {
	var list []refusedState
	add := func(e api.Errno, s ...api.WarnState) {
		for _, s := range s {
			list = append(list, refusedState{s, e})
		}
	}
	for _, n := range outsideOf(0, 2) {
		add(api.ErrRange, state(n, 0, 0), state(n, 1, 5))
	}
	for _, n := range outsideOf(0, 1) {
		add(api.ErrRange, state(1, n, 0), state(0, n, 0), state(2, n, 5))
	}
	for _, n := range outsideOf(0, 999999) {
		add(api.ErrRange, state(0, 0, n), state(2, 1, n), state(0, 1, n))
	}
	add(api.ErrClash, state(0, 1, 0), state(0, 1, 999999))
	return list
}

func notice(kind, region string) api.WarnNotice { return api.WarnNotice{Kind: kind, Region: region} }

// refusedNotices are notices, and the error with which they are refused.
type refusedNotices struct {
	l []api.WarnNotice
	e api.Errno
}

func badNotices() []refusedNotices {
	list := []refusedNotices{
		{manyOf(notice("a", "b"), 51), api.ErrLarge},
		{make([]api.WarnNotice, 51), api.ErrLarge},
		{make([]api.WarnNotice, 60000), api.ErrLarge},
	}
	for _, name := range badNames() {
		for _, n := range []api.WarnNotice{notice(name, "b"), notice("a", name), notice(name, name)} {
			good := notice("a", "b")
			list = append(list,
				refusedNotices{[]api.WarnNotice{n}, api.ErrName},
				refusedNotices{[]api.WarnNotice{good, n}, api.ErrName},
				refusedNotices{append(manyOf(good, 49), n), api.ErrName})
		}
	}
	return list
}

func client(name string, kinds, regions []string) api.WarnClient {
	return api.WarnClient{Name: name, Kinds: kinds, Regions: regions}
}

// exampleClients are that of the chapter's example 5, one that has subscribed to everything, and one that has to a region.
func exampleClients() []api.WarnClient {
	return []api.WarnClient{client("c", []string{"storm"}, nil), client("all", nil, nil), client("s", nil, []string{"south"})}
}

// irregularClients returns valid clients.
func irregularClients(seed int) []api.WarnClient {
	next := numbers(seed + 700)
	some := func() []string {
		list := named(next(11))
		return slices.DeleteFunc(list, func(string) bool { return next(2) == 0 })
	}
	var l []api.WarnClient
	for _, name := range named(next(21)) {
		l = append(l, client(name, some(), some()))
	}
	return l
}

// goodClients are valid clients.
func goodClients() [][]api.WarnClient {
	var most []api.WarnClient
	for _, name := range named(20) {
		most = append(most, client(name, named(10), named(10)))
	}
	list := [][]api.WarnClient{nil, {}, exampleClients(), most}
	for seed := range 60 {
		list = append(list, irregularClients(seed))
	}
	return list
}

// refusedClient is a client, and the error with which it is refused.
type refusedClient struct {
	c api.WarnClient
	e api.Errno
}

// badClients are clients that are refused each alone.
func badClients() []refusedClient {
	var list []refusedClient
	add := func(e api.Errno, c ...api.WarnClient) {
		for _, c := range c {
			list = append(list, refusedClient{c, e})
		}
	}
	twice := []string{"a", "b", "a"}
	for _, name := range badNames() {
		add(api.ErrName, client(name, nil, nil), client(name, named(11), twice), client(name, twice, nil))
		for _, names := range [][]string{{name}, {"a", name}, {name, "a", "a"}, {name, name}, append(named(9), name)} {
			add(api.ErrName, client("c", names, nil), client("c", nil, names), client("c", names, twice), client("c", []string{"a"}, names))
		}
		add(api.ErrDouble, client("c", []string{"a", "a", name}, nil), client("c", nil, []string{"a", "a", name}), client("c", []string{"a", "a"}, []string{name}))
	}
	for _, large := range [][]string{named(11), manyOf("a", 11), make([]string, 11), manyOf("", 60000)} {
		add(api.ErrLarge, client("c", large, nil), client("c", nil, large), client("c", []string{""}, large), client("c", twice, large), client("c", large, large))
	}
	for _, double := range [][]string{twice, {"a", "a"}, {"a", "b", "b"}, append(named(9), "n0000")} {
		add(api.ErrDouble, client("c", double, nil), client("c", nil, double), client("c", []string{"a"}, double), client("c", double, double))
	}
	return list
}

// refusedClients are clients, and the index and the error with which they are refused.
type refusedClients struct {
	l     []api.WarnClient
	index int
	e     api.Errno
}

func badClientLists() []refusedClients {
	list := []refusedClients{
		{make([]api.WarnClient, 21), 0, api.ErrLarge},
		{manyOf(client("a", nil, nil), 60000), 0, api.ErrLarge},
	}
	add := func(index int, e api.Errno, l ...api.WarnClient) { list = append(list, refusedClients{l, index, e}) }
	a, b := client("a", nil, nil), client("b", nil, nil)
	for _, x := range badClients() {
		add(0, x.e, x.c)
		add(1, x.e, a, x.c)
		add(0, x.e, x.c, a, a)
		add(2, x.e, a, b, x.c, a)
		// The errors of a client come before that of its name among the clients.
		add(1, x.e, client(x.c.Name, nil, []string{"a"}), x.c)
		if x.e == api.ErrName && nameError(x.c.Name) != api.OK {
			list[len(list)-1].index = 0
		}
	}
	add(1, api.ErrExists, a, a)
	add(2, api.ErrExists, a, b, a, client("", nil, nil))
	add(2, api.ErrExists, a, b, client("b", []string{"x"}, nil))
	var many []api.WarnClient
	for _, name := range named(19) {
		many = append(many, client(name, nil, nil))
	}
	add(19, api.ErrExists, append(many, many[0])...)
	return list
}

func message(warning string, version, level int) api.WarnMessage {
	return api.WarnMessage{Warning: warning, Version: version, Level: level}
}

// messages returns the messages with strings.
func messages(texts ...string) []api.WarnMessage {
	var l []api.WarnMessage
	for _, text := range texts {
		var m api.WarnMessage
		if _, err := fmt.Sscanf(text, "%s %d %d", &m.Warning, &m.Version, &m.Level); err != nil {
			panic(text)
		}
		l = append(l, m)
	}
	return l
}

// fullStore is a store with as many messages as there may be.
func fullStore() []api.WarnMessage {
	var l []api.WarnMessage
	for i, name := range named(30) {
		l = append(l, message(name, 1+i*i, i%5))
	}
	return l
}

// irregularStore returns a valid store with warnings from few.
func irregularStore(next func(size int) int, warnings, versions int) []api.WarnMessage {
	var l []api.WarnMessage
	for _, name := range named(warnings) {
		if next(2) == 0 {
			l = append(l, message(name, 1+next(versions), next(5)))
		}
	}
	return l[:min(len(l), 30)]
}

// goodStores are valid stores.
func goodStores() [][]api.WarnMessage {
	list := [][]api.WarnMessage{nil, {}, messages("a 1 0"), messages("Z 1000000 4", "a 1 0", "aa 1 0", "b 7 2"), fullStore(), fullStore()[1:], messages("a 1 1", "a- 1 1", "a0 1 1", "aA 1 1", "aa 1 1")}
	for seed := range 40 {
		list = append(list, irregularStore(numbers(seed+1000), 1+seed, 1+seed%4))
	}
	return list
}

// refusedMessage is a message, and the error with which it is refused.
type refusedMessage struct {
	m api.WarnMessage
	e api.Errno
}

func badMessages() []refusedMessage {
	list := []refusedMessage{{api.WarnMessage{}, api.ErrName}}
	for _, name := range badNames() {
		list = append(list, refusedMessage{message(name, 1, 0), api.ErrName}, refusedMessage{message(name, 0, 5), api.ErrName})
	}
	for _, n := range outsideOf(1, 1000000) {
		list = append(list, refusedMessage{message("a", n, 0), api.ErrRange}, refusedMessage{message("a", n, 5), api.ErrRange})
	}
	for _, n := range outsideOf(0, 4) {
		list = append(list, refusedMessage{message("a", 1, n), api.ErrRange}, refusedMessage{message("a", 1000000, n), api.ErrRange})
	}
	return list
}

// refusedStore is a store, and the index and the error with which it is refused.
type refusedStore struct {
	l     []api.WarnMessage
	index int
	e     api.Errno
}

func badStores() []refusedStore {
	var list []refusedStore
	add := func(index int, e api.Errno, l ...api.WarnMessage) { list = append(list, refusedStore{l, index, e}) }
	add(0, api.ErrLarge, append(fullStore(), message("z", 1, 0))...)
	add(0, api.ErrLarge, make([]api.WarnMessage, 31)...)
	add(0, api.ErrLarge, make([]api.WarnMessage, 60000)...)
	for _, x := range badMessages() {
		add(0, x.e, x.m)
		add(0, x.e, x.m, message("a", 1, 0), message("a", 1, 0))
		add(1, x.e, message("B", 1, 0), x.m, api.WarnMessage{})
		// The errors of a message come before that of its place.
		add(1, x.e, message("z", 1, 0), x.m)
		add(29, x.e, append(fullStore()[:29], x.m)...)
	}
	for _, pair := range [][2]string{{"a", "a"}, {"b", "a"}, {"a", "Z"}, {"aa", "a"}, {"a0", "a-"}, {"aA", "a9"}, {"abcdefghijkl", "abcdefghijkk"}} {
		add(1, api.ErrOrder, message(pair[0], 1, 0), message(pair[1], 2, 1))
		add(2, api.ErrOrder, message("A", 1, 0), message(pair[0], 1, 0), message(pair[1], 1, 0), api.WarnMessage{})
	}
	add(29, api.ErrOrder, append(fullStore()[:29], message("n0027", 1, 0))...)
	add(2, api.ErrOrder, messages("a 1 1", "c 1 1", "b 1 1")...)
	return list
}

func sent(m api.WarnMessage) api.WarnPacket { return api.WarnPacket{Message: m} }

func acknowledged(m api.WarnMessage) api.WarnPacket { return api.WarnPacket{Message: m, Ack: true} }

// fullWire is as many packets as there may be; every third one is an acknowledgement.
func fullWire() []api.WarnPacket {
	var l []api.WarnPacket
	for i := range 60 {
		l = append(l, api.WarnPacket{Message: message(named(40)[i%40], 1+i, i%5), Ack: i%3 == 0})
	}
	return l
}

// exampleLink is a link with messages, packets and acknowledgements.
func exampleLink() api.WarnLink {
	return api.WarnLink{
		Box:   messages("a 2 2", "b 1 1"),
		Wire:  []api.WarnPacket{sent(message("a", 1, 1)), acknowledged(message("b", 1, 1)), sent(message("c", 5, 0))},
		Store: messages("a 1 1", "d 9 4"),
	}
}

// irregularLink returns a valid link.
func irregularLink(seed int) api.WarnLink {
	next := numbers(seed + 1300)
	warnings, versions := 1+next(40), 1+next(4)
	x := api.WarnLink{Box: irregularStore(next, warnings, versions), Store: irregularStore(next, warnings, versions)}
	for range next(61) {
		m := message(named(warnings)[next(warnings)], 1+next(versions), next(5))
		x.Wire = append(x.Wire, api.WarnPacket{Message: m, Ack: next(2) == 0})
	}
	return x
}

// goodLinks are valid links.
func goodLinks() []api.WarnLink {
	list := []api.WarnLink{
		{},
		exampleLink(),
		{Box: fullStore()},
		{Store: fullStore()},
		{Wire: fullWire()},
		{Box: fullStore(), Wire: fullWire(), Store: fullStore()},
		{Box: fullStore(), Wire: fullWire()},
		{Box: messages("z 1 1"), Store: fullStore()},
		{Box: messages("n0000 1 1"), Store: fullStore()},
		{Box: fullStore(), Wire: fullWire()[1:], Store: messages("a 1 1")},
	}
	for seed := range 120 {
		list = append(list, irregularLink(seed))
	}
	return list
}

// refusedLink is a link, and the error with which it is refused.
type refusedLink struct {
	x api.WarnLink
	e api.Errno
}

func badLinks() []refusedLink {
	var list []refusedLink
	spoiled := func(e api.Errno, change func(x *api.WarnLink)) {
		x := exampleLink()
		change(&x)
		list = append(list, refusedLink{x, e})
	}
	unordered, unnamed := messages("b 1 1", "a 1 1"), make([]api.WarnPacket, 1)
	for _, x := range badStores() {
		spoiled(x.e, func(link *api.WarnLink) { link.Box = x.l })
		spoiled(x.e, func(link *api.WarnLink) { link.Box, link.Store, link.Wire = x.l, unordered, unnamed })
		spoiled(x.e, func(link *api.WarnLink) { link.Store = x.l })
		spoiled(x.e, func(link *api.WarnLink) { link.Store, link.Wire = x.l, make([]api.WarnPacket, 61) })
	}
	spoiled(api.ErrOrder, func(link *api.WarnLink) { link.Box, link.Store = unordered, make([]api.WarnMessage, 31) })
	spoiled(api.ErrLarge, func(link *api.WarnLink) { link.Box, link.Store = make([]api.WarnMessage, 31), unordered })
	spoiled(api.ErrLarge, func(link *api.WarnLink) { link.Wire = make([]api.WarnPacket, 61) })
	spoiled(api.ErrLarge, func(link *api.WarnLink) { link.Wire = make([]api.WarnPacket, 60000) })
	spoiled(api.ErrLarge, func(link *api.WarnLink) { link.Wire = append(fullWire(), sent(message("a", 1, 1))) })
	for _, x := range badMessages() {
		for _, p := range []api.WarnPacket{sent(x.m), acknowledged(x.m)} {
			spoiled(x.e, func(link *api.WarnLink) { link.Wire[0] = p })
			spoiled(x.e, func(link *api.WarnLink) { link.Wire[1] = p; link.Wire[2] = unnamed[0] })
			spoiled(x.e, func(link *api.WarnLink) { link.Wire = append(fullWire()[:59], p) })
		}
	}
	return list
}

func put(m api.WarnMessage) api.WarnMove { return api.WarnMove{Kind: api.WarnPut, Message: m} }

func send(index int) api.WarnMove { return api.WarnMove{Kind: api.WarnSend, Index: index} }

func lose(index int) api.WarnMove { return api.WarnMove{Kind: api.WarnLose, Index: index} }

func double(index int) api.WarnMove { return api.WarnMove{Kind: api.WarnCopy, Index: index} }

func take(index int) api.WarnMove { return api.WarnMove{Kind: api.WarnTake, Index: index} }

// refusedMove is a move, and the error with which the example's link refuses it.
type refusedMove struct {
	m api.WarnMove
	e api.Errno
}

func badMoves() []refusedMove {
	var list []refusedMove
	add := func(e api.Errno, m ...api.WarnMove) {
		for _, m := range m {
			list = append(list, refusedMove{m, e})
		}
	}
	good := message("x", 1, 1)
	for _, kind := range outsideOf(0, 4) {
		add(api.ErrKind, api.WarnMove{Kind: kind}, api.WarnMove{Kind: kind, Index: 7, Message: good})
	}
	for _, index := range outsideOf(0, 0) {
		add(api.ErrForm, api.WarnMove{Index: index, Message: good}, api.WarnMove{Index: index})
	}
	for kind := api.WarnSend; kind <= api.WarnTake; kind++ {
		for _, m := range []api.WarnMessage{good, {Warning: "x"}, {Version: 1}, {Level: -1}} {
			add(api.ErrForm, api.WarnMove{Kind: kind, Message: m}, api.WarnMove{Kind: kind, Index: -1, Message: m}, api.WarnMove{Kind: kind, Index: 99, Message: m})
		}
	}
	for _, x := range badMessages() {
		add(x.e, put(x.m))
	}
	add(api.ErrClash, put(message("a", 2, 1)), put(message("b", 1, 0)))
	for _, index := range outsideOf(0, 1) {
		add(api.ErrMissing, send(index))
	}
	for _, index := range outsideOf(0, 2) {
		add(api.ErrMissing, lose(index), double(index), take(index))
	}
	return list
}

// manyTexts returns texts that are near a given one: with a part left out, doubled, or replaced.
func manyTexts(s string) []string {
	var list []string
	for i := range len(s) {
		list = append(list, s[:i]+s[i+1:], s[:i]+s[i:i+1]+s[i:])
		for _, part := range []string{" ", "/", "-", "+", "0", "9", "x", ".", ",", "_", "\n", "\t", "\x00", "\xc3"} {
			list = append(list, s[:i]+part+s[i:], s[:i]+part+s[i+1:])
		}
	}
	for _, part := range []string{" ", "x", "0", "\n", "-", "/", "é", " 1/0", " -1/-2"} {
		list = append(list, s+part, strings.Repeat(part, 6))
	}
	return list
}
