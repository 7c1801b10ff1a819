package trace

import (
	"fmt"
	"math"
	"slices"
	"testing"

	"skywave/api"
)

// refusedRules are rules, and the error with which they are refused.
type refusedRules struct {
	r api.TraceRules
	e api.Errno
}

// badRules are rules that are refused for the ionogram of the examples.
func badRules() []refusedRules {
	var list []refusedRules
	add := func(e api.Errno, change func(r *api.TraceRules)) {
		r := exampleRules()
		change(&r)
		list = append(list, refusedRules{r, e})
	}
	for _, n := range outsideOf(0, 1) {
		add(api.ErrKind, func(r *api.TraceRules) { r.Tag = n })
		add(api.ErrKind, func(r *api.TraceRules) { *r = api.TraceRules{Tag: n, Miss: -1, Jump: -1, Limit: -1, From: -1, To: -2} })
	}
	add(api.ErrKind, func(r *api.TraceRules) { r.Tag = api.TraceUndecided })
	for _, n := range outsideOf(0, 1000) {
		add(api.ErrRange, func(r *api.TraceRules) { r.Miss = n })
		add(api.ErrRange, func(r *api.TraceRules) { r.Jump = n })
		add(api.ErrRange, func(r *api.TraceRules) { r.Miss, r.From = n, 3 })
		add(api.ErrRange, func(r *api.TraceRules) { r.Jump, r.To = n, -1 })
	}
	for _, n := range outsideOf(0, 12) {
		add(api.ErrRange, func(r *api.TraceRules) { r.Limit = n })
		add(api.ErrRange, func(r *api.TraceRules) { r.Limit, r.From = n, 3 })
	}
	for _, n := range outsideOf(0, 2) {
		add(api.ErrMissing, func(r *api.TraceRules) { r.From = n })
		add(api.ErrMissing, func(r *api.TraceRules) { r.To = n })
		add(api.ErrMissing, func(r *api.TraceRules) { r.From, r.To = 1, n })
		add(api.ErrMissing, func(r *api.TraceRules) { r.From, r.To = n, 1 })
		add(api.ErrMissing, func(r *api.TraceRules) { r.From, r.To = n, n })
	}
	for _, x := range [][2]int{{1, 0}, {2, 1}, {2, 0}} {
		add(api.ErrOrder, func(r *api.TraceRules) { r.From, r.To = x[0], x[1] })
		add(api.ErrRange, func(r *api.TraceRules) { r.From, r.To, r.Limit = x[0], x[1], 13 })
	}
	return list
}

// irregularRules returns rules for an ionogram; the prices are low if few is set.
func irregularRules(seed int, g api.TraceGram, few bool) api.TraceRules {
	next := numbers(seed + 1000)
	r := api.TraceRules{Tag: next(2), Miss: next(1001), Jump: next(1001), Limit: next(13)}
	if few {
		r.Miss, r.Jump, r.Limit = next(4), next(3), next(len(g.Columns[0])+1)
	}
	r.From = next(len(g.Columns))
	r.To = r.From + next(len(g.Columns)-r.From)
	if seed%3 > 0 {
		r.From, r.To = 0, len(g.Columns)-1
	}
	return r
}

// smallSearch is an ionogram for which all traces can be gone through, and rules.
type smallSearch struct {
	g api.TraceGram
	r api.TraceRules
}

func smallSearches() []smallSearch {
	list := []smallSearch{{exampleGram(), exampleRules()}}
	for seed := range 200 {
		g := irregularGram(seed, 1+seed%5, 1+seed/5%4, seed%7 > 0)
		list = append(list, smallSearch{g, irregularRules(seed, g, seed%7 > 0)})
	}
	return list
}

// costByDefinition returns the cost of a cell.
func costByDefinition(g api.TraceGram, r api.TraceRules, column, row int) int {
	cell := g.Columns[column][row]
	switch cell.Tag {
	case r.Tag, api.TraceUndecided:
		return 255 - cell.Amplitude
	}
	return r.Miss
}

func size(n int) int {
	if n < 0 {
		return -n
	}
	return n
}

// sumByDefinition returns the cost of rows from the column From on, and whether they fit.
func sumByDefinition(g api.TraceGram, r api.TraceRules, rows []int) (int, bool) {
	sum := 0
	for i, row := range rows {
		sum += costByDefinition(g, r, r.From+i, row)
		if i > 0 {
			if size(row-rows[i-1]) > r.Limit {
				return 0, false
			}
			sum += r.Jump * size(row-rows[i-1])
		}
	}
	return sum, true
}

// validByDefinition tells whether potentials are valid.
func validByDefinition(g api.TraceGram, r api.TraceRules, potentials [][]int) bool {
	for i, list := range potentials {
		for row, number := range list {
			cost := costByDefinition(g, r, r.From+i, row)
			if r.From+i == r.To {
				if number > cost {
					return false
				}
				continue
			}
			for other, ahead := range potentials[i+1] {
				if size(row-other) <= r.Limit && number > cost+r.Jump*size(row-other)+ahead {
					return false
				}
			}
		}
	}
	return true
}

// P3.2

func TestCheckRules(t *testing.T) {
	for _, r := range []api.TraceRules{
		exampleRules(), {}, {Tag: api.TraceExtra, Miss: 1000, Jump: 1000, Limit: 12, From: 2, To: 2}, {From: 1, To: 2}, {Limit: 3, From: 0, To: 1},
	} {
		want(t, "CheckRules", CheckRules(exampleGram(), r), api.OK)
	}
	for _, x := range badRules() {
		want(t, fmt.Sprint("CheckRules of ", x.r), CheckRules(exampleGram(), x.r), x.e)
	}
	for _, x := range badGrams() {
		want(t, "CheckRules of a bad ionogram", CheckRules(x.g, exampleRules()), x.e)
		want(t, "CheckRules of a bad ionogram", CheckRules(x.g, api.TraceRules{Tag: 7, Miss: -1}), x.e)
		want(t, "CheckRules of a bad ionogram", CheckRules(x.g, api.TraceRules{From: 9, To: -1}), x.e)
	}
}

// P3.3

func TestCostOf(t *testing.T) {
	for _, x := range []struct {
		r    api.TraceRules
		p    api.TracePath
		cost int
	}{
		{exampleRules(), examplePath(), 255},
		{exampleRules(), path(0, 1, 2, 2), 315},
		{exampleRules(), path(0, 0, 0, 0), 845},
		{exampleRules(), path(0, 2, 1, 0), 745},
		{api.TraceRules{Miss: 7, Jump: 5, Limit: 2, To: 2}, path(0, 0, 2, 0), 245 + 165 + 7 + 20},
		{api.TraceRules{Tag: api.TraceExtra, Miss: 7, From: 1, To: 2, Limit: 1}, path(1, 2, 1), 165 + 155},
		{api.TraceRules{Tag: api.TraceExtra, Miss: 1000, From: 2, To: 2}, path(2, 2), 1000},
		{api.TraceRules{From: 1, To: 1}, path(1, 0), 0},
	} {
		cost, e := CostOf(exampleGram(), x.r, x.p)
		want(t, "CostOf "+FormatPath(x.p), results(cost, e), results(x.cost, api.OK))
	}
	for _, p := range []api.TracePath{
		path(0, 0, 2, 2), path(0, 1, 1, -1), path(0, -1, 1, 1), path(0, 1, -1, 1), path(0, -1, -1, -1),
		path(0, 1, 1), path(1, 1, 1), path(0, 1), path(2, 2), path(0, 2, 0, 0), path(0, 1, 2, 0),
	} {
		cost, e := CostOf(exampleGram(), exampleRules(), p)
		refused(t, "CostOf "+FormatPath(p), api.ErrRefused, cost, e)
	}
	for _, x := range []struct {
		r api.TraceRules
		p api.TracePath
	}{
		{api.TraceRules{Limit: 2, From: 1, To: 2}, path(0, 1, 1)},
		{api.TraceRules{Limit: 2, From: 1, To: 2}, path(0, 1, 1, 1)},
		{api.TraceRules{Limit: 2, From: 0, To: 1}, path(1, 1, 1)},
		{api.TraceRules{Limit: 2, From: 0, To: 1}, path(0, 1, 1, 1)},
		{api.TraceRules{Limit: 2, From: 1, To: 2}, path(1, 1)},
		{api.TraceRules{Limit: 2, From: 1, To: 2}, path(1, 1, -1)},
		{api.TraceRules{Limit: 0, From: 0, To: 1}, path(0, 1, 2)},
	} {
		cost, e := CostOf(exampleGram(), x.r, x.p)
		refused(t, "CostOf "+FormatPath(x.p), api.ErrRefused, cost, e)
	}
}

func TestCostOfByDefinition(t *testing.T) {
	for _, x := range smallSearches() {
		for rows := range allRows(x.r.To-x.r.From+1, len(x.g.Columns[0])) {
			expected, fits := sumByDefinition(x.g, x.r, rows)
			cost, e := CostOf(x.g, x.r, path(x.r.From, rows...))
			if !fits {
				refused(t, "CostOf", api.ErrRefused, cost, e)
				continue
			}
			want(t, "CostOf", results(cost, e), results(expected, api.OK))
		}
	}
}

func TestCostOfErrors(t *testing.T) {
	badTraces(t, "CostOf", func(g api.TraceGram, p api.TracePath) []any {
		cost, e := CostOf(g, exampleRules(), p)
		return results(cost, e)
	})
	for _, x := range badRules() {
		for _, p := range []api.TracePath{examplePath(), path(0, 9), path(0)} {
			cost, e := CostOf(exampleGram(), x.r, p)
			refused(t, "CostOf with bad rules", x.e, cost, e)
		}
	}
	for _, x := range badGrams() {
		cost, e := CostOf(x.g, api.TraceRules{Tag: 9}, examplePath())
		refused(t, "CostOf of a bad ionogram", x.e, cost, e)
	}
}

func TestCheapest(t *testing.T) {
	even := emptyGram(4, 3)
	valley := emptyGram(2, 3)
	valley.Columns[0][1].Amplitude, valley.Columns[1][0].Amplitude, valley.Columns[1][2].Amplitude = 255, 100, 100
	for _, x := range []struct {
		g    api.TraceGram
		r    api.TraceRules
		p    api.TracePath
		cost int
	}{
		{exampleGram(), exampleRules(), examplePath(), 255},
		{exampleGram(), api.TraceRules{Miss: 300, Jump: 20, To: 2}, path(0, 1, 1, 1), 460},
		{exampleGram(), api.TraceRules{Miss: 300, Jump: 20, Limit: 1, From: 1, To: 1}, path(1, 1), 105},
		{exampleGram(), api.TraceRules{Tag: api.TraceExtra, Miss: 300, Jump: 20, Limit: 1, From: 1, To: 2}, path(1, 2, 1), 340},
		{exampleGram(), api.TraceRules{To: 2}, path(0, 1, 1, 1), 160},
		{exampleGram(), api.TraceRules{Limit: 12, To: 2}, path(0, 2, 0, 0), 0},
		{even, api.TraceRules{Limit: 2, To: 3}, path(0, 0, 0, 0, 0), 1020},
		{valley, api.TraceRules{Limit: 2, Jump: 3, To: 1}, path(0, 1, 0), 158},
		{emptyGram(1, 1), api.TraceRules{}, path(0, 0), 255},
	} {
		p, cost, e := Cheapest(x.g, x.r)
		want(t, "Cheapest", results(p, cost, e), results(x.p, x.cost, api.OK))
	}
}

func TestCheapestByDefinition(t *testing.T) {
	for _, x := range smallSearches() {
		var best []int
		least := math.MaxInt
		for rows := range allRows(x.r.To-x.r.From+1, len(x.g.Columns[0])) {
			if cost, fits := sumByDefinition(x.g, x.r, rows); fits && cost < least {
				best, least = rows, cost
			}
		}
		p, cost, e := Cheapest(x.g, x.r)
		want(t, "Cheapest of "+FormatGram(x.g), results(p, cost, e), results(path(x.r.From, best...), least, api.OK))
	}
}

// badSearches calls a function with all bad ionograms (and bad rules for them), and all bad rules.
func badSearches(t *testing.T, what string, call func(g api.TraceGram, r api.TraceRules) []any) {
	t.Helper()
	for _, x := range badGrams() {
		refused(t, what+" of a bad ionogram", x.e, call(x.g, exampleRules())...)
		refused(t, what+" of a bad ionogram", x.e, call(x.g, api.TraceRules{Tag: 9, From: 9, To: 8})...)
	}
	for _, x := range badRules() {
		refused(t, what+" with bad rules", x.e, call(exampleGram(), x.r)...)
	}
}

func TestCheapestErrors(t *testing.T) {
	badSearches(t, "Cheapest", func(g api.TraceGram, r api.TraceRules) []any {
		p, cost, e := Cheapest(g, r)
		return results(p, cost, e)
	})
}

// P3.4

// bigSearches are searches through ionograms of all sizes, with the ends of all prices.
func bigSearches() []smallSearch {
	dear := api.TraceRules{Tag: api.TraceExtra, Miss: 1000, Jump: 1000, Limit: 12, To: 9}
	list := []smallSearch{{emptyGram(10, 12), dear}, {emptyGram(10, 12), api.TraceRules{To: 9}}}
	for seed, g := range goodGrams() {
		list = append(list, smallSearch{g, irregularRules(seed, g, false)}, smallSearch{g, irregularRules(seed, g, true)})
	}
	return append(list, smallSearches()...)
}

func TestPotentialsOf(t *testing.T) {
	for _, x := range bigSearches() {
		_, cost, _ := Cheapest(x.g, x.r)
		potentials, e := PotentialsOf(x.g, x.r)
		want(t, "error of PotentialsOf", e, api.OK)
		want(t, "columns of PotentialsOf", len(potentials), x.r.To-x.r.From+1)
		for _, list := range potentials {
			want(t, "rows of PotentialsOf", len(list), len(x.g.Columns[0]))
		}
		want(t, "whether PotentialsOf are valid", validByDefinition(x.g, x.r, potentials), true)
		want(t, "bound of PotentialsOf", slices.Min(potentials[0]), cost)
		bound, e := CheckBound(x.g, x.r, potentials)
		want(t, "CheckBound", results(bound, e), results(cost, api.OK))
	}
}

func TestPotentialsOfErrors(t *testing.T) {
	badSearches(t, "PotentialsOf", func(g api.TraceGram, r api.TraceRules) []any {
		potentials, e := PotentialsOf(g, r)
		return results(potentials, e)
	})
}

// examplePotentials returns those of the chapter's third example.
func examplePotentials() [][]int {
	return [][]int{{465, 255, 520}, {600, 200, 240}, {300, 300, 75}}
}

func TestCheckBound(t *testing.T) {
	bound, e := CheckBound(exampleGram(), exampleRules(), examplePotentials())
	want(t, "CheckBound", results(bound, e), results(255, api.OK))
	// All numbers are as great as possible, so that none may be raised alone.
	for column := range 3 {
		for row := range 3 {
			p := examplePotentials()
			p[column][row]++
			bound, e := CheckBound(exampleGram(), exampleRules(), p)
			refused(t, fmt.Sprint("CheckBound, raised at ", column, row), api.ErrProof, bound, e)
		}
	}
	for _, x := range []struct {
		r          api.TraceRules
		potentials [][]int
		bound      int
		e          api.Errno
	}{
		{exampleRules(), [][]int{{0, 0, 0}, {0, 0, 0}, {0, 0, 0}}, 0, api.OK},
		{exampleRules(), [][]int{{0, 0, -7}, {0, 0, 0}, {0, 0, 0}}, -7, api.OK},
		{exampleRules(), repeated(3, repeated(3, -1000000)), -1000000, api.OK},
		{exampleRules(), [][]int{{0, 1000000, 0}, {0, 0, 0}, {0, 0, 0}}, 0, api.ErrProof},
		{exampleRules(), [][]int{{0, 0, 0}, {0, 0, 0}, {0, 0, 76}}, 0, api.ErrProof},
		{exampleRules(), [][]int{{0, 0, 0}, {-1000000, 0, 0}, {0, 0, 0}}, 0, api.ErrProof},
		// The column 0 permits more than the costs of its cells.
		{exampleRules(), [][]int{{345, 155, 400}, {300, 100, 100}, {0, 0, 0}}, 155, api.OK},
		{api.TraceRules{From: 1, To: 1, Miss: 300}, [][]int{{300, 105, 165}}, 105, api.OK},
		{api.TraceRules{From: 1, To: 1, Miss: 300}, [][]int{{300, 106, 165}}, 0, api.ErrProof},
		{api.TraceRules{From: 1, To: 1, Miss: 300}, [][]int{{300, -300, 165}}, -300, api.OK},
	} {
		bound, e := CheckBound(exampleGram(), x.r, x.potentials)
		want(t, fmt.Sprint("CheckBound of ", x.potentials), results(bound, e), results(x.bound, x.e))
	}
}

func TestCheckBoundByDefinition(t *testing.T) {
	valid := 0
	for seed, x := range bigSearches() {
		next := numbers(seed)
		for try := range 20 {
			potentials, _ := PotentialsOf(x.g, x.r)
			for _, list := range potentials {
				for row := range list {
					if try%4 == 0 || next(len(list)) == 0 {
						list[row] += next(5) - 3 - try%3
					}
				}
			}
			expected, expectedError := 0, api.ErrProof
			if validByDefinition(x.g, x.r, potentials) {
				expected, expectedError = slices.Min(potentials[0]), api.OK
				valid++
			}
			bound, e := CheckBound(x.g, x.r, potentials)
			want(t, "CheckBound", results(bound, e), results(expected, expectedError))
		}
	}
	if valid < 100 {
		t.Error("few valid potentials:", valid)
	}
}

func TestCheckBoundErrors(t *testing.T) {
	badSearches(t, "CheckBound", func(g api.TraceGram, r api.TraceRules) []any {
		bound, e := CheckBound(g, r, examplePotentials())
		return results(bound, e)
	})
	badSearches(t, "CheckBound of nothing", func(g api.TraceGram, r api.TraceRules) []any {
		bound, e := CheckBound(g, r, nil)
		return results(bound, e)
	})
	for _, potentials := range [][][]int{
		nil, {{0, 0, 0}}, {{0, 0, 0}, {0, 0, 0}}, repeated(4, []int{0, 0, 0}), repeated(3, []int{0, 0}), repeated(3, []int{0, 0, 0, 0}), repeated(3, []int(nil)),
		{{0, 0}, {0, 0, 0}, {0, 0, 0}}, {{0, 0, 0}, nil, {0, 0, 0}}, {{0, 0, 0}, {0, 0, 0}, {0, 0, 0, 0}}, {{1000001, 0, 0}, {0, 0, 0}, {0, 0}}, {{1000001, 0, 0}},
	} {
		bound, e := CheckBound(exampleGram(), exampleRules(), potentials)
		refused(t, fmt.Sprint("CheckBound of ", potentials), api.ErrShape, bound, e)
	}
	for _, n := range outsideOf(-1000000, 1000000) {
		for column := range 3 {
			for row := range 3 {
				potentials := examplePotentials()
				potentials[0][0] = 9999
				potentials[column][row] = n
				bound, e := CheckBound(exampleGram(), exampleRules(), potentials)
				refused(t, "CheckBound of a great number", api.ErrRange, bound, e)
			}
		}
	}
	two := api.TraceRules{From: 1, To: 2}
	bound, e := CheckBound(exampleGram(), two, examplePotentials())
	refused(t, "CheckBound of other columns", api.ErrShape, bound, e)
}

// P3.9

func TestNoneIsCheaper(t *testing.T) {
	for seed, x := range smallSearches() {
		p, cost, _ := Cheapest(x.g, x.r)
		again, e := CostOf(x.g, x.r, p)
		want(t, "CostOf Cheapest", results(again, e), results(cost, api.OK))
		potentials, _ := PotentialsOf(x.g, x.r)
		next := numbers(seed)
		for row := range potentials[0] {
			potentials[0][row] -= next(3)
		}
		bound, e := CheckBound(x.g, x.r, potentials)
		want(t, "error of CheckBound", e, api.OK)
		for rows := range allRows(x.r.To-x.r.From+1, len(x.g.Columns[0])) {
			if cost, e := CostOf(x.g, x.r, path(x.r.From, rows...)); e == api.OK && cost < bound {
				t.Errorf("%v costs %d, the bound is %d", rows, cost, bound)
			}
		}
	}
}

// P3.10

func TestLessIsPermitted(t *testing.T) {
	for _, x := range bigSearches() {
		_, cost, _ := Cheapest(x.g, x.r)
		for _, change := range []func(r *api.TraceRules){
			func(r *api.TraceRules) { r.Limit = max(0, r.Limit-1) },
			func(r *api.TraceRules) { r.Limit = 0 },
			func(r *api.TraceRules) { r.Miss = min(1000, r.Miss+1) },
			func(r *api.TraceRules) { r.Jump = min(1000, r.Jump+1) },
			func(r *api.TraceRules) { r.Miss, r.Jump = 1000, 1000 },
		} {
			r := x.r
			change(&r)
			if _, other, e := Cheapest(x.g, r); e != api.OK || other < cost {
				t.Errorf("%v: %d (%v), but %v: %d", r, other, e, x.r, cost)
			}
		}
	}
}

// Edge cases: the limit 0, a cell with the wrong tag, and a single column.

func TestSearchEdges(t *testing.T) {
	for _, x := range bigSearches() {
		r := x.r
		r.Limit = 0
		p, _, _ := Cheapest(x.g, r)
		want(t, "rows of Cheapest with the limit 0", p.Rows, repeated(len(p.Rows), p.Rows[0]))
		r.To = r.From
		p, cost, e := Cheapest(x.g, r)
		least := math.MaxInt
		for row := range x.g.Columns[0] {
			least = min(least, costByDefinition(x.g, r, r.From, row))
		}
		want(t, "Cheapest of one column", results(len(p.Rows), cost, e), results(1, least, api.OK))
	}
	for _, amplitude := range []int{0, 1, 254, 255} {
		g := emptyGram(1, 1)
		for _, x := range []struct{ tag, wanted, cost int }{
			{api.TraceOrdinary, api.TraceOrdinary, 255 - amplitude},
			{api.TraceExtra, api.TraceOrdinary, 77},
			{api.TraceNeither, api.TraceOrdinary, 77},
			{api.TraceUndecided, api.TraceOrdinary, 255 - amplitude},
			{api.TraceOrdinary, api.TraceExtra, 77},
			{api.TraceExtra, api.TraceExtra, 255 - amplitude},
			{api.TraceNeither, api.TraceExtra, 77},
			{api.TraceUndecided, api.TraceExtra, 255 - amplitude},
		} {
			g.Columns[0][0] = api.TraceCell{Amplitude: amplitude, Tag: x.tag}
			_, cost, e := Cheapest(g, api.TraceRules{Tag: x.wanted, Miss: 77})
			want(t, "cost of a cell", results(cost, e), results(x.cost, api.OK))
		}
	}
}
