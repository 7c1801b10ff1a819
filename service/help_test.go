package service

import (
	"fmt"
	"math"
	"reflect"
	"slices"
	"strconv"
	"strings"
	"sync"
	"testing"

	"skywave/api"
)

// want compares results with those that are expected; nil and empty slices are equal.
func want(t *testing.T, what string, got, expected any) {
	t.Helper()
	if fmt.Sprintf("%v", got) != fmt.Sprintf("%v", expected) {
		t.Errorf("%s: %v, want %v", what, got, expected)
	}
}

// results lists several results of one call.
func results(list ...any) []any { return list }

// refused checks that a call returned an error, and zero values beside it.
func refused(t *testing.T, what string, expected api.Errno, got ...any) {
	t.Helper()
	last := len(got) - 1
	if got[last] != expected {
		t.Errorf("%s: error %v, want %v", what, got[last], expected)
	}
	for _, x := range got[:last] {
		v := reflect.ValueOf(x)
		if !v.IsZero() && !(v.Kind() == reflect.Slice && v.Len() == 0) {
			t.Errorf("%s: %v beside the error %v", what, x, expected)
		}
	}
}

// numbers returns a sequence of numbers from 0 to size - 1, which looks irregular and is always the same.
func numbers(seed int) func(size int) int {
	state := uint32(seed)*2654435761 + 12345
	return func(size int) int {
		state = state*1664525 + 1013904223
		return int(state>>8) % size
	}
}

// outsideOf returns numbers that are not from least to most, among them some at which arithmetic of words overflows.
func outsideOf(least, most int) []int {
	return []int{least - 1, most + 1, math.MinInt, math.MinInt + 1, math.MaxInt - 1, math.MaxInt, 1 << 43, 1<<43 + 5, -1 << 43}
}

// start returns the start of a string that may be long.
func start(s string) string { return s[:min(len(s), 60)] }

func manyOf[T any](item T, size int) []T { return slices.Repeat([]T{item}, size) }

func goodNames() []string {
	return []string{"a", "z", "A", "Z", "m", "a-", "B--", "c0", "d9", "E-5x", "abcdefghijkl", "north", "Z9-zA0a--"}
}

func badNames() []string {
	list := []string{"", " ", "-", "-a", "0", "9a", "abcdefghijklm", strings.Repeat("a", 60000), "ä", "aä", "a\n", "\x00", "a\xff", "a\x00"}
	for _, near := range []string{"@", "[", "`", "{", "/", ":", ",", ".", "_", "+", " "} {
		list = append(list, near, near+"a", "a"+near, "a"+near+"a", "abcdefghijk"+near)
	}
	return list
}

// named returns different names.
func named(size int) []string {
	var list []string
	for i := range size {
		list = append(list, fmt.Sprintf("n%04d", i))
	}
	return list
}

func person(name string, role int) api.ServicePerson {
	return api.ServicePerson{Name: name, Role: role}
}

// exampleNet is that of the chapter's examples.
func exampleNet() api.ServiceNet {
	return api.ServiceNet{
		People:   []api.ServicePerson{person("ola", api.ServiceOperator), person("ria", api.ServiceReader), person("mia", api.ServiceMaster)},
		Stations: []string{"k"},
		Code:     []int{1, 1, -1},
		Echo:     "0 1 0 -1 2 2 100 5 90 5",
		Reading:  api.ServiceReading{Miss: 300, Jump: 20, Limit: 1, Base: 100, Row: 50},
		Warnings: []string{"storm 2 50/40 80/65"},
	}
}

// wideNet has as much of everything as there may be, and a person of each role.
func wideNet() api.ServiceNet {
	n := api.ServiceNet{
		Stations: []string{"k", "north", "Z9", "a", "b-", "abcdefghijkl"},
		Code:     slices.Repeat([]int{1, -1}, 16),
		Echo:     "10 -10 -10 10 100 1000000000 1000000000 1000 1000000 1000000",
		Reading:  api.ServiceReading{Miss: 1000, Jump: 1000, Limit: 12, Base: 60, Row: 10},
		Warnings: []string{"storm 2 50/40 80/65", "fade 1 10/0", "z 20 1000000/-1000000", "aurora 3 1/0 2/1 3/2 4/3"},
	}
	for i, name := range []string{"vic", "ola", "ria", "mia", "v2", "o2", "r2", "abcdefghijkm"} {
		n.People = append(n.People, person(name, i%4))
	}
	return n
}

// smallNet has as little of everything as there may be.
func smallNet() api.ServiceNet {
	return api.ServiceNet{
		People:   []api.ServicePerson{person("m", api.ServiceMaster)},
		Stations: []string{"s"},
		Code:     []int{1},
		Echo:     "1 0 0 0 1 0 1 1 -1000000 0",
		Reading:  api.ServiceReading{Row: 1},
	}
}

// fourNet is a net with a person of each role, two stations and two warnings.
func fourNet() api.ServiceNet {
	n := exampleNet()
	n.People = append([]api.ServicePerson{person("vic", api.ServiceViewer)}, n.People...)
	n.Stations = []string{"k", "q"}
	n.Warnings = []string{"storm 2 50/40 80/65", "fade 1 10/0"}
	return n
}

// groundNet reads ionograms from the height 0 on.
func groundNet() api.ServiceNet {
	n := fourNet()
	n.Reading = api.ServiceReading{Miss: 20, Jump: 0, Limit: 12, Base: 0, Row: 100}
	n.Echo = "1 0 0 1 1 0 1 1 0 0"
	n.Code = []int{1, -1}
	return n
}

func goodNets() []api.ServiceNet {
	return []api.ServiceNet{exampleNet(), wideNet(), smallNet(), fourNet(), groundNet()}
}

func entry(at int, by, text string) api.ServiceEntry {
	return api.ServiceEntry{At: at, By: by, Text: text}
}

// logOf returns entries at the ticks from 1 on, each given as who made it, a blank, and its text.
func logOf(lines ...string) []api.ServiceEntry {
	var l []api.ServiceEntry
	for i, line := range lines {
		by, text, _ := strings.Cut(line, " ")
		l = append(l, entry(i+1, by, text))
	}
	return l
}

const (
	firstFrame  = "0 20;0,0 10,0 10,0 -10,0 0,0;"
	secondFrame = "0 20;0,0 0,10 0,10 0,-10 0,0;"
	exampleGram = "200 50;200o,10o;150o,20o;30o,180o"
)

// exampleLog is made of the chapter's examples, and valid in the example's net.
func exampleLog() []api.ServiceEntry {
	return logOf(
		"ola note the day begins",
		"ola sound s1 k "+firstFrame,
		"ola pair s1 "+secondFrame,
		"ola sound s2 k "+secondFrame,
		"ola gram g1 k "+exampleGram,
		"ria edit g1 1 m 2 0 ria",
		"ria edit g1 2 w 0 1 ria",
		"ola gram g2 k 300 50;10o,200o",
		"ria invert g2",
		"ria invert g1",
		"ola value storm 55",
		"ola value storm 39",
		"mia client c",
		"mia client d",
		"ola subscribe c storm",
		"ola put c storm",
		"ola move c send 0",
		"ola move c take 0",
		"ola value storm 85",
		"ola put c storm",
	)
}

// textsOfAllKinds are of each kind, and can be entered one after the other by a master in all nets with the warning storm and the station k.
func textsOfAllKinds() []string {
	return []string{
		"note a",
		"sound s9 k " + strings.Replace(firstFrame, ";", ";"+strings.Repeat("1,0 ", 32), 1),
		"pair s9 " + strings.Replace(secondFrame, ";", ";"+strings.Repeat("0,1 ", 32), 1),
		"gram g9 k 300 50;10o,200o",
		"edit g9 1 m 0 0 mia",
		"invert g9",
		"value storm 55",
		"client c9",
		"subscribe c9 storm",
		"put c9 storm",
		"move c9 send 0",
		"move c9 copy 0",
		"move c9 lose 0",
		"move c9 take 0",
	}
}

// masterLog returns the texts of all kinds as entries of one person.
func masterLog(by string) []api.ServiceEntry {
	var l []api.ServiceEntry
	for i, text := range textsOfAllKinds() {
		l = append(l, entry(10*i, by, text))
	}
	return l
}

// stateAfter returns the state after a log that must be valid.
func stateAfter(t *testing.T, n api.ServiceNet, l []api.ServiceEntry) api.ServiceState {
	t.Helper()
	s, e := StateOf(n, l)
	want(t, "the error of a log", e, api.OK)
	return s
}

// manyTexts returns texts that are near a given one: with a part left out, doubled, or replaced.
func manyTexts(s string) []string {
	var list []string
	for i := range len(s) {
		list = append(list, s[:i]+s[i+1:], s[:i]+s[i:i+1]+s[i:])
		for _, part := range []string{" ", "-", "+", "0", "9", "x", ";", ",", "\n", "\x7f", "\xc3"} {
			list = append(list, s[:i]+part+s[i:], s[:i]+part+s[i+1:])
		}
	}
	for _, part := range []string{" ", "x", "0", "\n", "-", " x", " 0", "  "} {
		list = append(list, s+part, strings.Repeat(part, 6))
	}
	return list
}

// irregularLog returns a valid log of at most so many entries; most of the kinds occur in it.
func irregularLog(n api.ServiceNet, seed, length int) []api.ServiceEntry {
	m, next := newModel(n), numbers(seed)
	tick := 0
	for tries := 0; len(m.log) < length && tries < 20*length; tries++ {
		tick += next(3)
		m.enter(irregularEntry(m, next, tick))
	}
	return m.log
}

// irregularEntry returns an entry that is likely to be valid after the log of a model.
func irregularEntry(m *model, next func(int) int, tick int) api.ServiceEntry {
	by := m.net.People[next(len(m.net.People))].Name
	return entry(tick, by, irregularText(m, next, by))
}

func irregularText(m *model, next func(int) int, by string) string {
	pick := func(list []string) string {
		if len(list) == 0 {
			return "none"
		}
		return list[next(len(list))]
	}
	var sounds, grams, clients, topics []string
	for _, s := range m.state.Sounds {
		sounds = append(sounds, s.Name)
	}
	for _, g := range m.state.Grams {
		grams = append(grams, g.Name)
	}
	for _, c := range m.state.Clients {
		clients = append(clients, c.Name)
	}
	for _, w := range m.state.Warnings {
		topics = append(topics, w.Name)
	}
	name, station, topic := named(9)[next(9)], pick(m.net.Stations), pick(topics)
	switch next(24) {
	case 0:
		return "note " + strings.Repeat("x ", next(3))
	case 1:
		return "sound " + name + " " + station + " " + irregularFrame(m, next)
	case 2, 3:
		return "pair " + pick(sounds) + " " + irregularFrame(m, next)
	case 4:
		return "gram " + name + " " + station + " " + irregularGram(next)
	case 5, 6:
		return "edit " + pick(grams) + " " + irregularEdit(m, next, by)
	case 7, 8:
		return "invert " + pick(grams)
	case 9, 10, 11:
		return "value " + topic + " " + strconv.Itoa(next(120)-10)
	case 12:
		return "client " + name
	case 13, 14:
		return "subscribe " + pick(clients) + " " + topic
	case 15, 16:
		return "put " + pick(clients) + " " + topic
	}
	return "move " + pick(clients) + " " + []string{"send", "send", "take", "take", "copy", "lose"}[next(6)] + " " + strconv.Itoa(next(2))
}

// irregularFrame returns the string of a frame, which has often as many samples as another one.
func irregularFrame(m *model, next func(int) int) string {
	var samples []string
	size := []int{5, 50, 9000}[next(3)]
	for range len(m.net.Code) + next(3) {
		samples = append(samples, fmt.Sprintf("%d,%d", next(2*size+1)-size, next(2*size+1)-size))
	}
	return fmt.Sprintf("%d %d;%s;%s", next(3)-1, size+next(2), strings.Join(samples, " "), []string{"", "", "0", "0 2"}[next(4)])
}

func irregularGram(next func(int) int) string {
	s, rows := fmt.Sprintf("%d %d", 100+next(400), 20+next(100)), 1+next(5)
	for range 1 + next(10) {
		var cells []string
		for range rows {
			cells = append(cells, fmt.Sprintf("%d%c", next(256), "oooxnu"[next(6)]))
		}
		s += ";" + strings.Join(cells, ",")
	}
	return s
}

func irregularEdit(m *model, next func(int) int, by string) string {
	number, old := 1+len(m.log), 1
	for _, g := range m.state.Grams {
		for _, edit := range g.Edits {
			if next(2) == 0 {
				old = edit.Number
			}
		}
	}
	switch next(5) {
	case 0, 4:
		return fmt.Sprintf("%d w 0 %d %s", number, old, by)
	case 1:
		return fmt.Sprintf("%d r %d 0 %s", number, next(5), by)
	}
	return fmt.Sprintf("%d m %d %d %s", number, next(6), next(3), by)
}

// manyLogs ranges over nets and valid logs.
func manyLogs(yield func(n api.ServiceNet, l []api.ServiceEntry) bool) {
	for _, x := range netsAndLogs() {
		if !yield(x.net, x.log) {
			return
		}
	}
}

// netsAndLogs makes nets and valid logs once, as many tests need them.
var netsAndLogs = sync.OnceValue(func() []arguments {
	list := []arguments{{net: exampleNet(), log: exampleLog()}, {net: wideNet(), log: masterLog("mia")}}
	for i, n := range goodNets() {
		list = append(list, arguments{net: n})
		for seed := range 24 {
			list = append(list, arguments{net: n, log: irregularLog(n, 100*i+seed, []int{5, 20, 60}[seed%3])})
		}
	}
	return list
})
