package trace

import (
	"fmt"
	"math"
	"reflect"
	"slices"
	"testing"

	"skywave/api"
)

// want compares results with those that are expected; nil and empty slices are equal.
func want(t *testing.T, what string, got, expected any) {
	t.Helper()
	if fmt.Sprintf("%v", got) != fmt.Sprintf("%v", expected) {
		t.Errorf("%s: %v, want %v", what, got, expected)
	}
}

// results lists several results of one call.
func results(list ...any) []any { return list }

// refused checks that a call returned an error, and zero values beside it.
func refused(t *testing.T, what string, expected api.Errno, got ...any) {
	t.Helper()
	last := len(got) - 1
	if got[last] != expected {
		t.Errorf("%s: error %v, want %v", what, got[last], expected)
	}
	for _, x := range got[:last] {
		v := reflect.ValueOf(x)
		if !v.IsZero() && !(v.Kind() == reflect.Slice && v.Len() == 0) {
			t.Errorf("%s: %v beside the error %v", what, x, expected)
		}
	}
}

// repeated returns a list of equal items.
func repeated[T any](n int, item T) []T {
	list := make([]T, n)
	for i := range list {
		list[i] = item
	}
	return list
}

// numbers returns a sequence of numbers from 0 to size - 1, which looks irregular and is always the same.
func numbers(seed int) func(size int) int {
	state := uint32(seed)*2654435761 + 12345
	return func(size int) int {
		state = state*1664525 + 1013904223
		return int(state>>8) % size
	}
}

// extremes are numbers at which arithmetic of words overflows.
var extremes = []int{math.MinInt, math.MinInt + 1, math.MaxInt - 1, math.MaxInt}

// outsideOf returns numbers that are not from least to most.
func outsideOf(least, most int) []int {
	return append([]int{least - 1, most + 1}, extremes...)
}

// exampleGram returns the ionogram of the chapter's examples.
func exampleGram() api.TraceGram {
	return api.TraceGram{First: 2000, Step: 500, Columns: [][]api.TraceCell{
		{{Amplitude: 10}, {Amplitude: 200}, {Tag: api.TraceNeither}},
		{{Tag: api.TraceNeither}, {Amplitude: 150}, {Amplitude: 90, Tag: api.TraceUndecided}},
		{{Tag: api.TraceNeither}, {Amplitude: 100, Tag: api.TraceExtra}, {Amplitude: 180}},
	}}
}

func exampleRules() api.TraceRules { return api.TraceRules{Miss: 300, Jump: 20, Limit: 1, To: 2} }

func examplePath() api.TracePath { return path(0, 1, 1, 2) }

func path(from int, rows ...int) api.TracePath { return api.TracePath{From: from, Rows: rows} }

// emptyGram returns an ionogram of ordinary cells with the amplitude 0.
func emptyGram(columns, rows int) api.TraceGram {
	g := api.TraceGram{First: 1, Step: 1}
	for range columns {
		g.Columns = append(g.Columns, make([]api.TraceCell, rows))
	}
	return g
}

// irregularGram returns an ionogram whose cells cost little, so that many traces cost the same, if few is set.
func irregularGram(seed, columns, rows int, few bool) api.TraceGram {
	next := numbers(seed)
	g := emptyGram(columns, rows)
	g.First, g.Step = 1+next(3000), 1+next(3000)
	for _, column := range g.Columns {
		for i := range column {
			column[i] = api.TraceCell{Amplitude: next(256), Tag: next(4)}
			if few {
				column[i].Amplitude = 255 - next(3)
			}
		}
	}
	return g
}

// irregularPath returns a trace of an ionogram, with a column that is removed here and there.
func irregularPath(seed int, g api.TraceGram) api.TracePath {
	next := numbers(seed)
	p := path(next(len(g.Columns)))
	for range 1 + next(len(g.Columns)-p.From) {
		p.Rows = append(p.Rows, next(len(g.Columns[0])+1)-1)
	}
	return p
}

// rowAt returns the row of a trace in a column, -1 if it has none there.
func rowAt(p api.TracePath, column int) int {
	if column < p.From || column >= p.From+len(p.Rows) {
		return -1
	}
	return p.Rows[column-p.From]
}

// refusedGram is an ionogram, and the column and the error with which it is refused.
type refusedGram struct {
	g      api.TraceGram
	column int
	e      api.Errno
}

// badGrams are ionograms that are refused.
func badGrams() []refusedGram {
	var list []refusedGram
	add := func(column int, e api.Errno, change func(g *api.TraceGram)) {
		g := exampleGram()
		change(&g)
		list = append(list, refusedGram{g, column, e})
	}
	for _, n := range outsideOf(1, 3000) {
		add(0, api.ErrRange, func(g *api.TraceGram) { g.First = n })
		add(0, api.ErrRange, func(g *api.TraceGram) { g.Step = n })
		add(0, api.ErrRange, func(g *api.TraceGram) { g.First, g.Columns = n, nil })
		add(0, api.ErrRange, func(g *api.TraceGram) { g.Step, g.Columns = n, repeated(11, g.Columns[0]) })
	}
	add(0, api.ErrShape, func(g *api.TraceGram) { g.Columns = nil })
	add(0, api.ErrLarge, func(g *api.TraceGram) { g.Columns = repeated(11, g.Columns[0]) })
	add(0, api.ErrLarge, func(g *api.TraceGram) { g.Columns = make([][]api.TraceCell, 11) })
	add(0, api.ErrShape, func(g *api.TraceGram) { g.Columns[0] = nil })
	add(0, api.ErrShape, func(g *api.TraceGram) { g.Columns = make([][]api.TraceCell, 3) })
	add(1, api.ErrShape, func(g *api.TraceGram) { g.Columns[1] = nil })
	add(1, api.ErrShape, func(g *api.TraceGram) { g.Columns[0] = g.Columns[0][:2] })
	add(2, api.ErrShape, func(g *api.TraceGram) { g.Columns[2] = g.Columns[2][:2] })
	add(2, api.ErrShape, func(g *api.TraceGram) { g.Columns[2] = make([]api.TraceCell, 4) })
	add(2, api.ErrShape, func(g *api.TraceGram) { g.Columns[2] = make([]api.TraceCell, 13) })
	add(0, api.ErrLarge, func(g *api.TraceGram) { g.Columns[0] = make([]api.TraceCell, 13) })
	add(0, api.ErrLarge, func(g *api.TraceGram) { g.Columns = repeated(3, make([]api.TraceCell, 13)) })
	add(0, api.ErrLarge, func(g *api.TraceGram) { g.Columns[0] = repeated(13, api.TraceCell{Amplitude: -1}) })
	for column := range 3 {
		for row := range 3 {
			for _, n := range outsideOf(0, 255) {
				add(column, api.ErrRange, func(g *api.TraceGram) { g.Columns[column][row].Amplitude = n })
			}
			for _, n := range outsideOf(0, 3) {
				add(column, api.ErrKind, func(g *api.TraceGram) { g.Columns[column][row].Tag = n })
				add(column, api.ErrRange, func(g *api.TraceGram) { g.Columns[column][row] = api.TraceCell{Amplitude: 256, Tag: n} })
			}
		}
	}
	add(1, api.ErrKind, func(g *api.TraceGram) { g.Columns[1][0].Tag, g.Columns[1][1].Amplitude = 4, -1 })
	add(0, api.ErrRange, func(g *api.TraceGram) { g.Columns[0][2].Amplitude, g.Columns[1] = 256, nil })
	add(0, api.ErrKind, func(g *api.TraceGram) { g.Columns[0][2].Tag, g.Columns[1][0].Amplitude = -1, -1 })
	add(1, api.ErrShape, func(g *api.TraceGram) { g.Columns[1], g.Columns[2][0].Amplitude = nil, -1 })
	return list
}

// refusedPath is a trace, and the index and the error with which it is refused.
type refusedPath struct {
	p     api.TracePath
	index int
	e     api.Errno
}

// badPaths are traces that are refused of the ionogram of the examples.
func badPaths() []refusedPath {
	var list []refusedPath
	for _, n := range outsideOf(0, 2) {
		list = append(list,
			refusedPath{path(n, 1), 0, api.ErrMissing},
			refusedPath{path(n), 0, api.ErrMissing},
			refusedPath{path(n, 9, 9, 9, 9), 0, api.ErrMissing},
		)
	}
	for from := range 3 {
		list = append(list,
			refusedPath{path(from), 0, api.ErrShape},
			refusedPath{path(from, repeated(4-from, 1)...), 0, api.ErrLarge},
			refusedPath{path(from, repeated(20, 3)...), 0, api.ErrLarge},
		)
		for _, n := range outsideOf(-1, 2) {
			for i := range 3 - from {
				rows := repeated(3-from, 2)
				rows[i] = n
				list = append(list, refusedPath{path(from, rows...), i, api.ErrRange})
			}
		}
	}
	return append(list, refusedPath{path(0, 0, 3, -2), 1, api.ErrRange})
}

// spoil overwrites a list as far as its memory reaches.
func spoil[T any](list []T, item T) {
	list = list[:cap(list)]
	for i := range list {
		list[i] = item
	}
}

// allRows ranges over all lists of so many rows, in lexicographic order.
func allRows(count, height int) func(yield func([]int) bool) {
	return func(yield func([]int) bool) {
		total := int(math.Round(math.Pow(float64(height), float64(count))))
		for n := range total {
			rows := make([]int, count)
			for i, rest := 0, n; i < count; i++ {
				rows[i] = rest % height
				rest /= height
			}
			slices.Reverse(rows)
			if !yield(rows) {
				return
			}
		}
	}
}
