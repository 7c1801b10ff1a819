package service

import (
	"fmt"
	"slices"
	"testing"

	"skywave/api"
)

// P10.3

func TestStateOfExample(t *testing.T) {
	s := stateAfter(t, exampleNet(), exampleLog())
	gauss := func(numbers ...int) []api.Gauss {
		var l []api.Gauss
		for i := 0; i < len(numbers); i += 2 {
			l = append(l, api.Gauss{Re: numbers[i], Im: numbers[i+1]})
		}
		return l
	}
	first := api.CodeFrame{Limit: 20, Samples: gauss(0, 0, 10, 0, 10, 0, -10, 0, 0, 0)}
	second := api.CodeFrame{Limit: 20, Samples: gauss(0, 0, 0, 10, 0, 10, 0, -10, 0, 0)}
	want(t, "the soundings", s.Sounds, []api.ServiceSound{
		{Name: "s1", Station: "k", Frames: []api.CodeFrame{first, second}},
		{Name: "s2", Station: "k", Frames: []api.CodeFrame{second}},
	})
	cells := func(numbers ...int) []api.TraceCell {
		var l []api.TraceCell
		for _, n := range numbers {
			l = append(l, api.TraceCell{Amplitude: n})
		}
		return l
	}
	want(t, "the ionograms", s.Grams, []api.ServiceGram{
		{
			Name: "g1", Station: "k",
			Gram: api.TraceGram{First: 200, Step: 50, Columns: [][]api.TraceCell{cells(200, 10), cells(150, 20), cells(30, 180)}},
			Edits: []api.TraceEdit{
				{Number: 1, Kind: api.TraceMove, Column: 2, By: "ria"},
				{Number: 2, Kind: api.TraceWithdraw, Row: 1, By: "ria"},
			},
		},
		{Name: "g2", Station: "k", Gram: api.TraceGram{First: 300, Step: 50, Columns: [][]api.TraceCell{cells(10, 200)}}},
	})
	// The second point reaches its pixel at once; the third one, whose index is about 1.81, reaches 150 km with 28 km.
	want(t, "the products", s.Products, []api.ServiceProduct{{Station: "k", Version: 2, Gram: "g1", Profile: api.ProfileSky{
		Base: 100, Slabs: []api.ProfileSlab{{Square: 40000}, {Square: 62500, Thickness: 28}, {Square: 90000, Thickness: 1}},
	}}})
	want(t, "the warnings", s.Warnings, []api.ServiceWarning{{Name: "storm", Values: []int{55, 39, 85}}})
	one, two := api.WarnMessage{Warning: "storm", Version: 1, Level: 1}, api.WarnMessage{Warning: "storm", Version: 2, Level: 2}
	want(t, "the clients", s.Clients, []api.ServiceClient{
		{Name: "c", Topics: []string{"storm"}, Link: api.WarnLink{
			Box:   []api.WarnMessage{two},
			Wire:  []api.WarnPacket{{Message: one, Ack: true}},
			Store: []api.WarnMessage{one},
		}},
		{Name: "d"},
	})
}

// The state of the empty log has the warnings of the net, without values, and nothing else.
func TestStateOfEmptyLog(t *testing.T) {
	for _, n := range goodNets() {
		m := newModel(n)
		for _, l := range [][]api.ServiceEntry{nil, {}} {
			want(t, "StateOf", stateAfter(t, n, l), m.state)
			s, e := StateAt(n, l, 5)
			want(t, "StateAt", results(s, e), results(m.state, api.OK))
		}
	}
	want(t, "the warnings", stateAfter(t, fourNet(), nil).Warnings, []api.ServiceWarning{{Name: "storm"}, {Name: "fade"}})
}

func TestStatesOfModel(t *testing.T) {
	for n, l := range manyLogs {
		want(t, "StateOf", stateAfter(t, n, l), modelOf(n, l).state)
		for _, at := range timesOf(l) {
			count := 0
			for _, x := range l {
				if x.At <= at {
					count++
				}
			}
			s, e := StateAt(n, l, at)
			want(t, "StateAt", results(s, e), results(modelOf(n, l[:count]).state, api.OK))
		}
	}
}

// timesOf returns times at and beside those of some entries of a log, and at the limits.
func timesOf(l []api.ServiceEntry) []int {
	times := []int{0, 1, 1000000000000}
	for i, x := range l {
		if i%5 == 0 || i == len(l)-1 {
			times = append(times, max(x.At-1, 0), x.At, x.At+1)
		}
	}
	slices.Sort(times)
	return slices.Compact(times)
}

func TestStateAtRange(t *testing.T) {
	for _, at := range outsideOf(0, 1000000000000) {
		s, e := StateAt(exampleNet(), exampleLog(), at)
		refused(t, "StateAt", api.ErrRange, s, e)
		s, e = StateAt(exampleNet(), nil, at)
		refused(t, "StateAt", api.ErrRange, s, e)
	}
	// The whole log is checked, also what is later.
	s, e := StateAt(exampleNet(), append(exampleLog(), entry(99, "ola", "x")), 1)
	refused(t, "StateAt", api.ErrSyntax, s, e)
}

// Entries at the same time are all in the state of this time.
func TestStateAtOneTime(t *testing.T) {
	l := []api.ServiceEntry{entry(4, "ola", "value storm 1"), entry(4, "ola", "value storm 2"), entry(4, "ola", "value storm 3"), entry(6, "ola", "value storm 4")}
	for _, x := range []struct{ at, count int }{{0, 0}, {3, 0}, {4, 3}, {5, 3}, {6, 4}, {7, 4}, {1000000000000, 4}} {
		s, e := StateAt(exampleNet(), l, x.at)
		want(t, "the values", results(s.Warnings[0].Values, e), results([]int{1, 2, 3, 4}[:x.count], api.OK))
	}
}

func TestProductsOf(t *testing.T) {
	l, e := ProductsOf(exampleNet(), exampleLog(), "k")
	want(t, "the error of ProductsOf", e, api.OK)
	want(t, "ProductsOf", fmt.Sprint(l), "[{k 1 g2 {150 [{90000 1}]}} {k 2 g1 {100 [{40000 0} {62500 28} {90000 1}]}}]")
	l, e = ProductsOf(exampleNet(), exampleLog()[:8], "k")
	want(t, "ProductsOf without products", results(l, e), results(l[:0], api.OK))
	for n, log := range manyLogs {
		m := modelOf(n, log)
		for _, station := range n.Stations {
			l, e := ProductsOf(n, log, station)
			want(t, "ProductsOf", results(l, e), results(m.productsOf(station), api.OK))
		}
	}
}

// Products of several stations stand in the order in which these had their first one, and each has versions of its own.
func TestProductsOfStations(t *testing.T) {
	n := fourNet()
	l := logOf(
		"ola gram a k 200 50;200o",
		"ola gram b q 300 50;200o",
		"ola gram c k 400 50;200o",
		"ria invert b",
		"ria invert a",
		"ria invert b",
		"ria invert c",
		"ria invert a",
	)
	profiles := map[string]api.ProfileSky{}
	for gram, square := range map[string]int{"a": 40000, "b": 90000, "c": 160000} {
		profiles[gram] = api.ProfileSky{Base: 100, Slabs: []api.ProfileSlab{{Square: square, Thickness: 1}}}
	}
	made := func(station string, version int, gram string) api.ServiceProduct {
		return api.ServiceProduct{Station: station, Version: version, Gram: gram, Profile: profiles[gram]}
	}
	for i, expected := range [][]api.ServiceProduct{
		nil,
		{made("q", 1, "b")},
		{made("q", 1, "b"), made("k", 1, "a")},
		{made("q", 2, "b"), made("k", 1, "a")},
		{made("q", 2, "b"), made("k", 2, "c")},
		{made("q", 2, "b"), made("k", 3, "a")},
	} {
		want(t, "the products", stateAfter(t, n, l[:3+i]).Products, expected)
	}
	k, _ := ProductsOf(n, l, "k")
	want(t, "ProductsOf k", k, []api.ServiceProduct{made("k", 1, "a"), made("k", 2, "c"), made("k", 3, "a")})
	q, _ := ProductsOf(n, l, "q")
	want(t, "ProductsOf q", q, []api.ServiceProduct{made("q", 1, "b"), made("q", 2, "b")})
	s, e := Answer(n, l, "stations")
	want(t, "the stations", results(s, e), results("k,q", api.OK))
	s, e = Answer(n, l[:4], "stations")
	want(t, "the stations", results(s, e), results("q", api.OK))
}

// P10.9: every beginning of a valid log is valid; it is built entry by entry.
func TestEveryBeginning(t *testing.T) {
	for n, l := range manyLogs {
		d, e := New(n)
		want(t, "New", e, api.OK)
		var built []api.ServiceEntry
		for i, x := range l {
			j, e := CheckLog(n, l[:i])
			want(t, "CheckLog of a beginning", results(j, e), results(0, api.OK))
			built, e = Appended(n, built, x)
			want(t, "the error of Appended", e, api.OK)
			want(t, "Enter", d.Enter(x.At, x.By, x.Text), api.OK)
		}
		want(t, "the log that was built", built, l)
		want(t, "the log of the desk", d.Log(), l)
		if len(l) == 0 {
			continue
		}
		s, e := StateAt(n, l, l[len(l)-1].At)
		want(t, "the state at the last time", results(s, e), results(stateAfter(t, n, l), api.OK))
		want(t, "Undo", d.Undo(), api.OK)
		want(t, "the log after Undo", d.Log(), l[:len(l)-1])
	}
}
