package trace

import (
	"fmt"
	"testing"

	"skywave/api"
)

// P3.2

func TestCheckPath(t *testing.T) {
	for _, p := range []api.TracePath{
		examplePath(), path(0, 0), path(2, 2), path(1, -1, -1), path(0, -1), path(0, 2, 0), path(1, 0, 2), path(0, -1, 2, -1),
	} {
		i, e := CheckPath(exampleGram(), p)
		want(t, "CheckPath of "+FormatPath(p), results(i, e), results(0, api.OK))
	}
	for _, x := range badPaths() {
		i, e := CheckPath(exampleGram(), x.p)
		want(t, "CheckPath of "+FormatPath(x.p), results(i, e), results(x.index, x.e))
	}
	for _, x := range badGrams() {
		for _, p := range []api.TracePath{examplePath(), path(-1), path(0), path(9, 9), path(0, 0, 99)} {
			i, e := CheckPath(x.g, p)
			refused(t, "CheckPath of a bad ionogram", x.e, i, e)
		}
	}
	for seed, g := range goodGrams() {
		i, e := CheckPath(g, irregularPath(seed, g))
		want(t, "CheckPath", results(i, e), results(0, api.OK))
		whole := path(0, repeated(len(g.Columns), len(g.Columns[0])-1)...)
		i, e = CheckPath(g, whole)
		want(t, "CheckPath of the last row", results(i, e), results(0, api.OK))
	}
}

func TestPointsOf(t *testing.T) {
	for _, x := range []struct {
		p    api.TracePath
		list []api.TracePoint
	}{
		{examplePath(), []api.TracePoint{{Frequency: 2000, Delay: api.Range{Lo: 1, Hi: 2}}, {Frequency: 2500, Delay: api.Range{Lo: 1, Hi: 2}}, {Frequency: 3000, Delay: api.Range{Lo: 2, Hi: 3}}}},
		{path(1, -1, 2), []api.TracePoint{{Frequency: 3000, Delay: api.Range{Lo: 2, Hi: 3}}}},
		{path(1, 0, -1), []api.TracePoint{{Frequency: 2500, Delay: api.Range{Lo: 0, Hi: 1}}}},
		{path(2, 0), []api.TracePoint{{Frequency: 3000, Delay: api.Range{Lo: 0, Hi: 1}}}},
		{path(0, -1, -1, -1), nil},
		{path(2, -1), nil},
	} {
		list, e := PointsOf(exampleGram(), x.p)
		want(t, "PointsOf "+FormatPath(x.p), results(list, e), results(x.list, api.OK))
	}
	for seed, g := range goodGrams() {
		p := irregularPath(seed, g)
		var expected []api.TracePoint
		for column := range g.Columns {
			if row := rowAt(p, column); row >= 0 {
				frequency, _ := FrequencyAt(g, column)
				expected = append(expected, api.TracePoint{Frequency: frequency, Delay: api.Range{Lo: row, Hi: row + 1}})
			}
		}
		list, e := PointsOf(g, p)
		want(t, "PointsOf", results(list, e), results(expected, api.OK))
	}
}

// badTraces calls a function with all bad ionograms (and bad traces of them), and all bad traces.
func badTraces(t *testing.T, what string, call func(g api.TraceGram, p api.TracePath) []any) {
	t.Helper()
	for _, x := range badGrams() {
		for _, p := range []api.TracePath{examplePath(), path(-1), path(0)} {
			refused(t, fmt.Sprint(what, " of a bad ionogram"), x.e, call(x.g, p)...)
		}
	}
	for _, x := range badPaths() {
		refused(t, fmt.Sprint(what, " of a bad trace"), x.e, call(exampleGram(), x.p)...)
	}
}

func TestPointsOfErrors(t *testing.T) {
	badTraces(t, "PointsOf", func(g api.TraceGram, p api.TracePath) []any {
		list, e := PointsOf(g, p)
		return results(list, e)
	})
}
