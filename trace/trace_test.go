package trace

import (
	"fmt"
	"slices"
	"strings"
	"testing"

	"skywave/api"
)

// P3.5

func TestSeenIn(t *testing.T) {
	for _, x := range []struct {
		p         api.TracePath
		threshold int
		list      []int
	}{
		{examplePath(), 150, []int{0, 1, 2}},
		{examplePath(), 151, []int{0, 2}},
		{examplePath(), 180, []int{0, 2}},
		{examplePath(), 181, []int{0}},
		{examplePath(), 200, []int{0}},
		{examplePath(), 201, nil},
		{examplePath(), 255, nil},
		{path(0, -1, 1, 2), 150, []int{1, 2}},
		{path(1, 1, -1), 0, []int{1}},
		{path(2, 0), 0, []int{2}},
		{path(2, 1), 100, []int{2}},
		{path(1, 2, 1), 90, []int{1, 2}},
		{path(0, -1, -1, -1), 0, nil},
	} {
		list, e := SeenIn(exampleGram(), x.p, x.threshold)
		want(t, fmt.Sprint("SeenIn ", x.p, x.threshold), results(list, e), results(x.list, api.OK))
	}
	for seed, g := range goodGrams() {
		p := irregularPath(seed, g)
		for _, threshold := range []int{0, 1, 100, 200, 254, 255} {
			var expected []int
			for column, cells := range g.Columns {
				if row := rowAt(p, column); row >= 0 && cells[row].Amplitude >= threshold {
					expected = append(expected, column)
				}
			}
			list, e := SeenIn(g, p, threshold)
			want(t, "SeenIn", results(list, e), results(expected, api.OK))
		}
	}
}

func TestCriticalOf(t *testing.T) {
	for _, x := range []struct {
		p         api.TracePath
		threshold int
		critical  api.Range
		e         api.Errno
	}{
		{examplePath(), 150, api.Range{}, api.ErrOpen},
		{examplePath(), 180, api.Range{}, api.ErrOpen},
		{examplePath(), 181, api.Range{Lo: 2000, Hi: 2500}, api.OK},
		{examplePath(), 201, api.Range{}, api.ErrNone},
		{path(0, 1, 1), 150, api.Range{Lo: 2500, Hi: 3000}, api.OK},
		{path(0, 1, 1, -1), 0, api.Range{Lo: 2500, Hi: 3000}, api.OK},
		{path(0, 1, 1, -1), 151, api.Range{Lo: 2000, Hi: 2500}, api.OK},
		{path(1, 1), 0, api.Range{Lo: 2500, Hi: 3000}, api.OK},
		{path(0, -1, -1, -1), 0, api.Range{}, api.ErrNone},
		{path(2, 2), 180, api.Range{}, api.ErrOpen},
		{path(2, 2), 181, api.Range{}, api.ErrNone},
	} {
		critical, e := CriticalOf(exampleGram(), x.p, x.threshold)
		want(t, fmt.Sprint("CriticalOf ", x.p, x.threshold), results(critical, e), results(x.critical, x.e))
	}
}

func TestThresholds(t *testing.T) {
	badTraces(t, "SeenIn", func(g api.TraceGram, p api.TracePath) []any {
		list, e := SeenIn(g, p, -1)
		return results(list, e)
	})
	badTraces(t, "CriticalOf", func(g api.TraceGram, p api.TracePath) []any {
		critical, e := CriticalOf(g, p, 256)
		return results(critical, e)
	})
	for _, threshold := range outsideOf(0, 255) {
		for _, p := range []api.TracePath{examplePath(), path(0, -1), path(2, 2)} {
			list, e := SeenIn(exampleGram(), p, threshold)
			refused(t, "SeenIn", api.ErrRange, list, e)
			critical, e := CriticalOf(exampleGram(), p, threshold)
			refused(t, "CriticalOf", api.ErrRange, critical, e)
		}
	}
}

// exampleLayers are the layers of the chapter's fifth example.
func exampleLayers() []api.TraceLayer {
	return []api.TraceLayer{{Name: "low"}, {Name: "high", Rows: api.Range{Lo: 1, Hi: 3}}}
}

func layer(name string, lo, hi int) api.TraceLayer {
	return api.TraceLayer{Name: name, Rows: api.Range{Lo: lo, Hi: hi}}
}

func TestLayerOf(t *testing.T) {
	for _, x := range []struct {
		p    api.TracePath
		l    []api.TraceLayer
		name string
		e    api.Errno
	}{
		{examplePath(), exampleLayers(), "high", api.OK},
		{path(0, 2, 0, 1), exampleLayers(), "low", api.OK},
		{path(0, -1, 2, 1), exampleLayers(), "high", api.OK},
		{path(0, 2, 1, -1), exampleLayers(), "high", api.OK},
		{path(2, 0), exampleLayers(), "low", api.OK},
		{path(0, -1, -1, -1), exampleLayers(), "", api.ErrNone},
		{path(0, -1), []api.TraceLayer{layer("all", 0, 12)}, "", api.ErrNone},
		{examplePath(), nil, "", api.ErrNone},
		{examplePath(), exampleLayers()[:1], "", api.ErrNone},
		{examplePath(), []api.TraceLayer{layer("a", 2, 12), layer("b", 0, 0)}, "", api.ErrNone},
		{examplePath(), []api.TraceLayer{layer("a", 2, 12), layer("b", 0, 1)}, "b", api.OK},
		{examplePath(), []api.TraceLayer{layer("a", 1, 1), layer("b", 0, 12)}, "a", api.OK},
		{examplePath(), []api.TraceLayer{layer("b", 0, 12), layer("a", 1, 1)}, "b", api.OK},
		{path(0, 2, 2, 2), []api.TraceLayer{layer("a", 0, 1), layer("b", 0, 0), layer("C", 12, 12), layer("d-", 3, 3), layer("e", 1, 1), layer("F-0123456789", 2, 2)}, "F-0123456789", api.OK},
	} {
		name, e := LayerOf(exampleGram(), x.p, x.l)
		want(t, fmt.Sprint("LayerOf ", x.p, x.l), results(name, e), results(x.name, x.e))
	}
}

// badNames are strings that are no names.
var badNames = []string{"", "-a", "0", "1a", "a b", "a_b", "a.", "é", "a\u0661", "abcdefghijklm", "a\x00", " a", "a ", "a@", "a[", "a`", "a{", "a/", "a:", "@", "[", "`", "{", strings.Repeat("a", 1000)}

// goodNames are names.
var goodNames = []string{"a", "z", "A", "Z", "a0", "a9", "a-", "z-Z", "abcdefghijkl", "A-0123456789"}

func TestLayerOfErrors(t *testing.T) {
	badTraces(t, "LayerOf", func(g api.TraceGram, p api.TracePath) []any {
		name, e := LayerOf(g, p, make([]api.TraceLayer, 7))
		return results(name, e)
	})
	check := func(e api.Errno, l ...api.TraceLayer) {
		t.Helper()
		for _, p := range []api.TracePath{examplePath(), path(0, -1)} {
			name, errno := LayerOf(exampleGram(), p, l)
			refused(t, fmt.Sprint("LayerOf with ", l), e, name, errno)
		}
	}
	check(api.ErrLarge, make([]api.TraceLayer, 7)...)
	check(api.ErrLarge, layer("a", 0, 12), layer("b", 1, 1), layer("c", 1, 1), layer("d", 1, 1), layer("e", 1, 1), layer("f", 1, 1), layer("g", 1, 1))
	for _, name := range badNames {
		check(api.ErrName, layer(name, 0, 12))
		check(api.ErrName, layer("a", 0, 12), layer(name, 1, 0))
		check(api.ErrName, layer(name, -1, 99), layer(name, 0, 12))
	}
	for _, name := range goodNames {
		got, e := LayerOf(exampleGram(), examplePath(), []api.TraceLayer{layer(name, 1, 1)})
		want(t, "LayerOf", results(got, e), results(name, api.OK))
		check(api.ErrExists, layer(name, 0, 12), layer(name, 0, 12))
	}
	check(api.ErrExists, layer("a", 0, 12), layer("b", 0, 12), layer("a", -1, 12))
	check(api.ErrExists, layer("a", 0, 12), layer("a", 13, 12), layer("", 0, 12))
	for _, n := range outsideOf(0, 12) {
		check(api.ErrRange, layer("a", n, 12))
		check(api.ErrRange, layer("a", 0, n))
		check(api.ErrRange, layer("a", 1, 1), layer("b", n, 0))
		check(api.ErrRange, layer("a", 0, n), layer("a", 1, 1))
	}
	check(api.ErrOrder, layer("a", 1, 0))
	check(api.ErrOrder, layer("a", 1, 1), layer("b", 12, 11))
	check(api.ErrOrder, layer("a", 12, 0), layer("", 1, 1))
}

func TestHopsOf(t *testing.T) {
	g := emptyGram(4, 12)
	for _, x := range []struct {
		a, b      api.TracePath
		tolerance int
		n         int
		e         api.Errno
	}{
		{path(0, 1, 1, 2), path(0, 2, 2, 2), 2, 2, api.OK},
		{path(0, 1, 1, 2), path(0, 2, 2, 2), 1, 0, api.ErrNone},
		{path(0, 1, 2, 3), path(0, 2, 4, 6), 0, 2, api.OK},
		{path(0, 1, 2, 3), path(0, 3, 6, 9), 0, 3, api.OK},
		{path(0, 1, 2, 2), path(0, 4, 8, 8), 0, 4, api.OK},
		{path(0, 1, 1, 2), path(0, 5, 5, 10), 0, 0, api.ErrNone},
		{path(0, 1, 1, 2), path(0, 5, 5, 10), 2, 4, api.OK},
		{path(0, 1, 1, 2), path(0, 5, 5, 9), 1, 4, api.OK},
		{path(0, 1, 2, 3), path(0, 1, 2, 3), 0, 0, api.ErrNone},
		{path(0, 1, 2, 3), path(0, 1, 2, 3), 2, 0, api.ErrNone},
		{path(0, 1, 2, 3), path(0, 1, 2, 3), 3, 2, api.OK},
		{path(0, 0, 0, 0), path(0, 0, 0, 0), 0, 2, api.OK},
		{path(0, 0, 1), path(0, 0, 3), 0, 3, api.OK},
		{path(0, 11, 11), path(0, 0, 0), 12, 0, api.ErrNone},
		{path(0, 5), path(0, 11), 12, 2, api.OK},
		{path(0, -1, 2), path(0, 7, 4), 0, 2, api.OK},
		{path(0, 7, 2), path(0, -1, 4), 0, 2, api.OK},
		{path(0, -1, 2), path(0, 4, -1), 12, 0, api.ErrNone},
		{path(0, -1), path(0, -1), 12, 0, api.ErrNone},
		{path(0, 1, 1), path(2, 2, 2), 12, 0, api.ErrNone},
		{path(2, 1, 1), path(0, 2, 2), 12, 0, api.ErrNone},
		{path(0, 9, 1, 2), path(1, 2, 4, 9), 0, 2, api.OK},
		{path(1, 2, 3, 5), path(0, 11, 4), 0, 2, api.OK},
	} {
		n, e := HopsOf(g, api.TracePair{A: x.a, B: x.b}, x.tolerance)
		want(t, fmt.Sprint("HopsOf ", x.a, x.b, x.tolerance), results(n, e), results(x.n, x.e))
	}
}

// hopsByDefinition returns the minimum number of hops, 0 if there is none.
func hopsByDefinition(g api.TraceGram, x api.TracePair, tolerance int) int {
	for n := 2; n <= 4; n++ {
		common, good := 0, true
		for column := range g.Columns {
			a, b := rowAt(x.A, column), rowAt(x.B, column)
			if a >= 0 && b >= 0 {
				common++
				good = good && size(b-n*a) <= tolerance
			}
		}
		if common > 0 && good {
			return n
		}
	}
	return 0
}

func TestHopsOfByDefinition(t *testing.T) {
	var counts [5]int
	for seed := range 3000 {
		g := emptyGram(1+seed%4, 1+seed%12)
		x := api.TracePair{A: irregularPath(seed, g), B: irregularPath(seed+9999, g)}
		for tolerance := range 13 {
			expected, expectedError := hopsByDefinition(g, x, tolerance), api.OK
			counts[expected]++
			if expected == 0 {
				expectedError = api.ErrNone
			}
			n, e := HopsOf(g, x, tolerance)
			want(t, fmt.Sprint("HopsOf ", x, tolerance), results(n, e), results(expected, expectedError))
		}
	}
	if counts[1] > 0 || slices.Min([]int{counts[0], counts[2], counts[3], counts[4]}) < 50 {
		t.Error("numbers of hops:", counts)
	}
}

// badPairs calls a function with all bad ionograms and traces, each one as the first and the second of a pair.
func badPairs(t *testing.T, what string, call func(g api.TraceGram, x api.TracePair) []any) {
	t.Helper()
	badTraces(t, what+", the first trace", func(g api.TraceGram, p api.TracePath) []any {
		return call(g, api.TracePair{A: p, B: examplePath()})
	})
	badTraces(t, what+", the second trace", func(g api.TraceGram, p api.TracePath) []any {
		return call(g, api.TracePair{A: examplePath(), B: p})
	})
	for _, x := range badPaths() {
		refused(t, what+" of two bad traces", x.e, call(exampleGram(), api.TracePair{A: x.p, B: path(-1)})...)
		refused(t, what+" of two bad traces", x.e, call(exampleGram(), api.TracePair{A: x.p, B: path(0, 0, 0, 99)})...)
	}
}

func TestHopsOfErrors(t *testing.T) {
	badPairs(t, "HopsOf", func(g api.TraceGram, x api.TracePair) []any {
		n, e := HopsOf(g, x, -1)
		return results(n, e)
	})
	for _, tolerance := range outsideOf(0, 12) {
		for _, x := range []api.TracePair{{A: examplePath(), B: examplePath()}, {A: path(0, -1), B: path(1, 1)}} {
			n, e := HopsOf(exampleGram(), x, tolerance)
			refused(t, "HopsOf", api.ErrRange, n, e)
		}
	}
}

// Edge cases: a trace of -1 alone.

func TestTraceOfNothing(t *testing.T) {
	p := path(0, -1, -1)
	i, e := CheckPath(exampleGram(), p)
	want(t, "CheckPath", results(i, e), results(0, api.OK))
	points, e := PointsOf(exampleGram(), p)
	want(t, "PointsOf", results(points, e), results([]api.TracePoint{}, api.OK))
	name, e := LayerOf(exampleGram(), p, exampleLayers())
	refused(t, "LayerOf", api.ErrNone, name, e)
	critical, e := CriticalOf(exampleGram(), p, 0)
	refused(t, "CriticalOf", api.ErrNone, critical, e)
}

// P3.14

func TestBetween(t *testing.T) {
	found := 0
	for seed := range 400 {
		g := irregularGram(seed, 1+seed%10, 1+seed%12, false)
		p := irregularPath(seed, g)
		for threshold := 0; threshold < 256; threshold += 15 {
			seen, _ := SeenIn(g, p, threshold)
			critical, e := CriticalOf(g, p, threshold)
			switch {
			case len(seen) == 0:
				refused(t, "CriticalOf", api.ErrNone, critical, e)
				continue
			case slices.Max(seen) == len(g.Columns)-1:
				refused(t, "CriticalOf", api.ErrOpen, critical, e)
				continue
			}
			for _, column := range seen {
				frequency, _ := FrequencyAt(g, column)
				want(t, "whether CriticalOf is not below", critical.Lo >= frequency && critical.Hi > frequency, true)
			}
			found++
			last := g.First + slices.Max(seen)*g.Step
			want(t, "CriticalOf", results(critical, e), results(api.Range{Lo: last, Hi: last + g.Step}, api.OK))
		}
	}
	if found < 100 {
		t.Error("few critical frequencies:", found)
	}
}
