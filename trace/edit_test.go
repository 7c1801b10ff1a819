package trace

import (
	"fmt"
	"slices"
	"testing"

	"skywave/api"
)

func move(number, column, row int) api.TraceEdit {
	return api.TraceEdit{Number: number, Kind: api.TraceMove, Column: column, Row: row, By: "ann"}
}

func remove(number, column int) api.TraceEdit {
	return api.TraceEdit{Number: number, Kind: api.TraceRemove, Column: column, By: "ann"}
}

func withdraw(number, other int) api.TraceEdit {
	return api.TraceEdit{Number: number, Kind: api.TraceWithdraw, Row: other, By: "ann"}
}

func by(name string, edit api.TraceEdit) api.TraceEdit {
	edit.By = name
	return edit
}

// moves returns valid edits with the numbers from first on.
func moves(first, count int) []api.TraceEdit {
	var list []api.TraceEdit
	for i := range count {
		list = append(list, move(first+i, 0, 0))
	}
	return list
}

// irregularEdits returns valid edits of some columns and rows, of which many are withdrawn.
func irregularEdits(seed, count, from, columns, rows int) []api.TraceEdit {
	next := numbers(seed)
	var list []api.TraceEdit
	number := 0
	for range count {
		number += 1 + next(3)
		edit := by(goodNames[next(len(goodNames))], move(number, from+next(columns), next(rows)))
		switch kind := next(4); {
		case kind == 1:
			edit.Kind, edit.Row = api.TraceRemove, 0
		case kind > 1 && len(list) > 0:
			edit.Kind, edit.Column, edit.Row = api.TraceWithdraw, 0, list[max(0, len(list)-1-next(6))].Number
		}
		list = append(list, edit)
	}
	return list
}

// refusedEdits are edits, and the index and the error with which they are refused.
type refusedEdits struct {
	l     []api.TraceEdit
	index int
	e     api.Errno
}

// badEditsAlone are edits each of which is refused alone, whatever is before it.
func badEditsAlone() []refusedEdits {
	var list []refusedEdits
	add := func(e api.Errno, edit api.TraceEdit) {
		list = append(list, refusedEdits{[]api.TraceEdit{edit}, 0, e})
	}
	for _, n := range outsideOf(1, 1000000) {
		add(api.ErrRange, move(n, 0, 0))
		add(api.ErrRange, remove(n, 0))
		add(api.ErrRange, withdraw(n, 0))
		add(api.ErrRange, api.TraceEdit{Number: n, Kind: 3})
	}
	for _, n := range outsideOf(0, 2) {
		add(api.ErrKind, api.TraceEdit{Number: 9, Kind: n, By: "ann"})
		add(api.ErrKind, api.TraceEdit{Number: 9, Kind: n, Column: -1, Row: 99})
	}
	for _, n := range outsideOf(0, 9) {
		add(api.ErrRange, move(9, n, 0))
		add(api.ErrRange, by("", move(9, n, 0)))
		add(api.ErrRange, remove(9, n))
		add(api.ErrRange, api.TraceEdit{Number: 9, Kind: api.TraceRemove, Column: n, Row: 1})
		add(api.ErrForm, api.TraceEdit{Number: 9, Kind: api.TraceWithdraw, Column: n, Row: -1})
	}
	for _, n := range outsideOf(0, 11) {
		add(api.ErrRange, move(9, 0, n))
		add(api.ErrRange, by("", move(9, 9, n)))
	}
	for _, n := range append([]int{-1, 1}, extremes...) {
		add(api.ErrForm, api.TraceEdit{Number: 9, Kind: api.TraceRemove, Row: n, By: "ann"})
		add(api.ErrForm, api.TraceEdit{Number: 9, Kind: api.TraceRemove, Column: 9, Row: n})
		add(api.ErrForm, api.TraceEdit{Number: 9, Kind: api.TraceWithdraw, Column: n, Row: 1, By: "ann"})
	}
	for _, name := range badNames {
		add(api.ErrName, by(name, move(9, 9, 11)))
		add(api.ErrName, by(name, remove(9, 9)))
	}
	return list
}

// badEdits are edits that are refused.
func badEdits() []refusedEdits {
	list := []refusedEdits{
		{moves(1, 21), 0, api.ErrLarge},
		{make([]api.TraceEdit, 21), 0, api.ErrLarge},
		{[]api.TraceEdit{withdraw(3, 1)}, 0, api.ErrMissing},
		{[]api.TraceEdit{withdraw(3, 3)}, 0, api.ErrMissing},
		{[]api.TraceEdit{withdraw(3, 0)}, 0, api.ErrMissing},
		{[]api.TraceEdit{withdraw(3, -1)}, 0, api.ErrMissing},
		{[]api.TraceEdit{withdraw(3, 4), move(4, 0, 0)}, 0, api.ErrMissing},
		{[]api.TraceEdit{move(2, 0, 0), withdraw(3, 1)}, 1, api.ErrMissing},
		{[]api.TraceEdit{move(2, 0, 0), withdraw(3, 3)}, 1, api.ErrMissing},
		{[]api.TraceEdit{move(2, 0, 0), by("", withdraw(3, 1))}, 1, api.ErrMissing},
		{[]api.TraceEdit{move(2, 0, 0), withdraw(1, 1)}, 1, api.ErrMissing},
		{[]api.TraceEdit{move(2, 0, 0), by("", withdraw(3, 2))}, 1, api.ErrName},
		{[]api.TraceEdit{move(2, 0, 0), by("", withdraw(1, 2))}, 1, api.ErrName},
		{[]api.TraceEdit{move(2, 0, 0), withdraw(1, 2)}, 1, api.ErrOrder},
		{[]api.TraceEdit{move(2, 0, 0), withdraw(2, 2)}, 1, api.ErrOrder},
		{[]api.TraceEdit{move(2, 0, 0), move(2, 0, 0)}, 1, api.ErrOrder},
		{[]api.TraceEdit{move(2, 0, 0), remove(1, 0)}, 1, api.ErrOrder},
		{[]api.TraceEdit{move(1, 0, 0), move(3, 0, 0), move(2, 0, 0)}, 2, api.ErrOrder},
		{[]api.TraceEdit{move(2, 0, 0), by("", move(1, 0, 0))}, 1, api.ErrName},
		{[]api.TraceEdit{move(2, 0, 0), move(1, 0, 0), move(0, 0, 0)}, 1, api.ErrOrder},
	}
	for _, x := range badEditsAlone() {
		list = append(list, x,
			refusedEdits{append(slices.Clone(x.l), x.l...), 0, x.e},
			refusedEdits{[]api.TraceEdit{move(1, 0, 0), x.l[0], move(0, 0, 0)}, 1, x.e},
			refusedEdits{append(moves(1000, 19), x.l[0]), 19, x.e},
		)
	}
	return list
}

// P3.6

func TestCheckEdits(t *testing.T) {
	good := [][]api.TraceEdit{
		nil,
		{move(1, 2, 1), remove(2, 0), withdraw(3, 1)},
		{move(1, 0, 0), move(1000000, 9, 11)},
		{remove(1, 0), remove(1000000, 9)},
		{move(5, 0, 0), withdraw(6, 5), withdraw(7, 6), withdraw(8, 5), withdraw(9, 5)},
		{move(999999, 0, 0), withdraw(1000000, 999999)},
		moves(1, 20),
		moves(999981, 20),
	}
	for _, name := range goodNames {
		good = append(good, []api.TraceEdit{by(name, move(1, 0, 0)), by(name, remove(2, 0)), by(name, withdraw(3, 2))})
	}
	for seed := range 50 {
		good = append(good, irregularEdits(seed, seed%21, 0, 10, 12))
	}
	for _, l := range good {
		i, e := CheckEdits(l)
		want(t, fmt.Sprint("CheckEdits of ", l), results(i, e), results(0, api.OK))
	}
	for _, x := range badEdits() {
		i, e := CheckEdits(x.l)
		want(t, fmt.Sprint("CheckEdits of ", x.l), results(i, e), results(x.index, x.e))
	}
}

func TestMerged(t *testing.T) {
	l := []api.TraceEdit{move(1, 2, 1), remove(2, 0), withdraw(3, 1), move(1000000, 9, 11)}
	for _, x := range []struct{ a, b, merged []api.TraceEdit }{
		{l[:2], l, l},
		{l, l[:2], l},
		{l, l[:0], l},
		{l[:2], l[3:], []api.TraceEdit{l[0], l[1], l[3]}},
		{l[3:], l[:2], []api.TraceEdit{l[0], l[1], l[3]}},
		{[]api.TraceEdit{l[0], l[2]}, l[1:2], l[:3]},
		{nil, nil, nil},
		{moves(1, 10), moves(11, 10), moves(1, 20)},
		{moves(11, 10), moves(1, 20), moves(1, 20)},
		{moves(1, 15), moves(6, 15), moves(1, 20)},
	} {
		merged, e := Merged(x.a, x.b)
		want(t, "Merged", results(merged, e), results(x.merged, api.OK))
	}
}

func TestMergedErrors(t *testing.T) {
	for _, x := range badEdits() {
		for _, other := range [][]api.TraceEdit{nil, moves(1, 20), {by("bob", x.l[0])}} {
			merged, e := Merged(x.l, other)
			refused(t, "Merged with bad edits before", x.e, merged, e)
		}
		merged, e := Merged(moves(1, 20), x.l)
		refused(t, "Merged with bad edits behind", x.e, merged, e)
		merged, e = Merged([]api.TraceEdit{withdraw(2, 1)}, x.l)
		refused(t, "Merged with bad edits on both sides", api.ErrMissing, merged, e)
	}
	for _, other := range []api.TraceEdit{remove(5, 0), move(5, 1, 0), move(5, 0, 1), by("bob", move(5, 0, 0))} {
		merged, e := Merged(moves(1, 6), []api.TraceEdit{other})
		refused(t, "Merged with another edit of the same number", api.ErrClash, merged, e)
		merged, e = Merged([]api.TraceEdit{other}, moves(1, 20))
		refused(t, "Merged with another edit of the same number", api.ErrClash, merged, e)
		merged, e = Merged(moves(1, 20), append([]api.TraceEdit{other}, moves(21, 5)...))
		refused(t, "Merged with another edit of the same number, and too many", api.ErrClash, merged, e)
	}
	merged, e := Merged([]api.TraceEdit{move(1, 0, 0), withdraw(3, 1)}, []api.TraceEdit{move(2, 0, 0), withdraw(3, 2)})
	refused(t, "Merged with another withdrawal", api.ErrClash, merged, e)
	for _, x := range [][2][]api.TraceEdit{{moves(1, 20), moves(21, 1)}, {moves(1, 20), moves(2, 20)}, {moves(1, 11), moves(101, 10)}, {moves(30, 20), moves(1, 20)}} {
		merged, e := Merged(x[0], x[1])
		refused(t, "Merged of too many", api.ErrLarge, merged, e)
	}
}

func TestCorrected(t *testing.T) {
	for _, x := range []struct {
		p, corrected api.TracePath
		l            []api.TraceEdit
	}{
		{examplePath(), path(0, -1, 1, 2), []api.TraceEdit{move(1, 2, 1), remove(2, 0), withdraw(3, 1)}},
		{examplePath(), path(0, -1, 1, 1), []api.TraceEdit{move(1, 2, 1), remove(2, 0)}},
		{examplePath(), examplePath(), nil},
		{examplePath(), path(0, 1, 0, 2), []api.TraceEdit{move(1, 1, 2), remove(2, 1), move(7, 1, 0)}},
		{examplePath(), path(0, 1, -1, 2), []api.TraceEdit{move(1, 1, 2), remove(2, 1), move(7, 1, 0), withdraw(8, 7)}},
		{examplePath(), path(0, 1, 2, 2), []api.TraceEdit{move(1, 1, 2), remove(2, 1), move(7, 1, 0), withdraw(8, 7), withdraw(9, 2)}},
		{examplePath(), path(0, 1, 1, 2), []api.TraceEdit{move(1, 1, 2), withdraw(2, 1), withdraw(3, 1)}},
		{examplePath(), path(0, 1, 2, 2), []api.TraceEdit{move(1, 1, 2), withdraw(2, 1), withdraw(3, 2)}},
		{examplePath(), path(0, 1, 1, 2), []api.TraceEdit{move(1, 1, 2), withdraw(2, 1), withdraw(3, 2), withdraw(4, 3)}},
		{examplePath(), path(0, 1, 1, 2), []api.TraceEdit{move(1, 1, 2), withdraw(2, 1), withdraw(3, 2), withdraw(4, 1)}},
		{examplePath(), path(0, 1, 2, 2), []api.TraceEdit{move(1, 1, 2), withdraw(2, 1), withdraw(3, 1), withdraw(4, 2), withdraw(5, 3)}},
		{path(1, -1, -1), path(1, -1, 0), []api.TraceEdit{move(1, 2, 0)}},
		{path(1, 0, 2), path(1, -1, -1), []api.TraceEdit{remove(1, 1), remove(5, 2)}},
		{path(2, -1), path(2, -1), []api.TraceEdit{remove(1, 2)}},
		{path(0, 0), path(0, 2), []api.TraceEdit{move(1000000, 0, 2)}},
	} {
		corrected, e := Corrected(exampleGram(), x.p, x.l)
		want(t, fmt.Sprint("Corrected ", x.p, x.l), results(corrected, e), results(x.corrected, api.OK))
	}
}

// takenBackByDefinition tells whether a later edit withdraws an edit, and is not taken back itself.
func takenBackByDefinition(l []api.TraceEdit, i int) bool {
	for j := i + 1; j < len(l); j++ {
		if l[j].Kind == api.TraceWithdraw && l[j].Row == l[i].Number && !takenBackByDefinition(l, j) {
			return true
		}
	}
	return false
}

func TestCorrectedByDefinition(t *testing.T) {
	back := 0
	for seed := range 500 {
		g := emptyGram(1+seed%10, 1+seed%12)
		p := irregularPath(seed, g)
		l := irregularEdits(seed, seed%21, p.From, min(len(p.Rows), 1+seed%4), len(g.Columns[0]))
		expected := path(p.From, slices.Clone(p.Rows)...)
		for i, edit := range l {
			switch {
			case takenBackByDefinition(l, i):
				back++
			case edit.Kind == api.TraceMove:
				expected.Rows[edit.Column-p.From] = edit.Row
			case edit.Kind == api.TraceRemove:
				expected.Rows[edit.Column-p.From] = -1
			}
		}
		corrected, e := Corrected(g, p, l)
		want(t, fmt.Sprint("Corrected ", p, l), results(corrected, e), results(expected, api.OK))
	}
	if back < 500 {
		t.Error("few edits are taken back:", back)
	}
}

func TestCorrectedErrors(t *testing.T) {
	badTraces(t, "Corrected", func(g api.TraceGram, p api.TracePath) []any {
		corrected, e := Corrected(g, p, make([]api.TraceEdit, 21))
		return results(corrected, e)
	})
	for _, x := range badEdits() {
		for _, p := range []api.TracePath{examplePath(), path(2, 0)} {
			corrected, e := Corrected(exampleGram(), p, x.l)
			refused(t, "Corrected with bad edits", x.e, corrected, e)
		}
	}
	corrected, e := Corrected(exampleGram(), path(1, 1), []api.TraceEdit{move(1, 0, 0), withdraw(2, 9)})
	refused(t, "Corrected with bad edits of a column that is missing", api.ErrMissing, corrected, e)
	corrected, e = Corrected(exampleGram(), path(1, 1), []api.TraceEdit{move(1, 0, 0), move(1, 0, 0)})
	refused(t, "Corrected with bad edits of a column that is missing", api.ErrOrder, corrected, e)
	for _, x := range []struct {
		p    api.TracePath
		edit api.TraceEdit
	}{
		{examplePath(), move(1, 3, 0)},
		{examplePath(), move(1, 9, 0)},
		{examplePath(), remove(1, 3)},
		{examplePath(), move(1, 0, 3)},
		{examplePath(), move(1, 2, 11)},
		{path(1, 1), move(1, 0, 0)},
		{path(1, 1), remove(1, 0)},
		{path(1, 1), move(1, 2, 0)},
		{path(1, 1), remove(1, 2)},
		{path(1, 1, 1), move(1, 0, 0)},
		{path(0, 1, 1), remove(1, 2)},
	} {
		for _, l := range [][]api.TraceEdit{
			{x.edit},
			{x.edit, withdraw(2, 1)},
			{x.edit, move(2, 1, 1)},
			{x.edit, withdraw(2, 1), withdraw(3, 2)},
		} {
			corrected, e := Corrected(exampleGram(), x.p, l)
			refused(t, fmt.Sprint("Corrected ", x.p, l), api.ErrMissing, corrected, e)
		}
		late := x.edit
		late.Number = 7
		corrected, e := Corrected(exampleGram(), x.p, []api.TraceEdit{move(2, 1, 1), late})
		refused(t, fmt.Sprint("Corrected ", x.p, late), api.ErrMissing, corrected, e)
	}
	// A withdrawal names neither a column nor a row.
	high := []api.TraceEdit{move(77, 1, 0), withdraw(78, 77)}
	corrected, e = Corrected(exampleGram(), path(1, 1), high)
	want(t, "Corrected", results(corrected, e), results(path(1, 1), api.OK))
}

func TestEditsOf(t *testing.T) {
	from := func(number int, name string) api.TraceEdit { return api.TraceEdit{Number: number, By: name} }
	for _, x := range []struct {
		a, b api.TracePath
		e    api.TraceEdit
		l    []api.TraceEdit
	}{
		{examplePath(), path(0, -1, 1, 0), from(7, "ann"), []api.TraceEdit{remove(7, 0), move(8, 2, 0)}},
		{examplePath(), path(0, 0, 0, 0), from(999990, "ann"), []api.TraceEdit{move(999990, 0, 0), move(999991, 1, 0), move(999992, 2, 0)}},
		{examplePath(), examplePath(), from(1, "ann"), nil},
		{path(1, -1, 2), path(1, 2, -1), from(1, "A-0123456789"), []api.TraceEdit{by("A-0123456789", move(1, 1, 2)), by("A-0123456789", remove(2, 2))}},
		{path(0, -1), path(0, 0), from(1, "ann"), []api.TraceEdit{move(1, 0, 0)}},
		{path(0, 0), path(0, -1), from(1, "ann"), []api.TraceEdit{remove(1, 0)}},
		{path(2, -1), path(2, -1), from(1, "ann"), nil},
		{path(2, 1), path(2, 0), api.TraceEdit{Number: 3, Kind: 99, Column: -7, Row: 1234, By: "ann"}, []api.TraceEdit{move(3, 2, 0)}},
		{path(2, 1), path(2, -1), api.TraceEdit{Number: 3, Kind: -1, Column: 99, Row: -5, By: "ann"}, []api.TraceEdit{remove(3, 2)}},
	} {
		l, e := EditsOf(exampleGram(), api.TracePair{A: x.a, B: x.b}, x.e)
		want(t, fmt.Sprint("EditsOf ", x.a, x.b), results(l, e), results(x.l, api.OK))
	}
}

func TestEditsOfErrors(t *testing.T) {
	badPairs(t, "EditsOf", func(g api.TraceGram, x api.TracePair) []any {
		l, e := EditsOf(g, x, api.TraceEdit{})
		return results(l, e)
	})
	check := func(expected api.Errno, a, b api.TracePath, edit api.TraceEdit) {
		t.Helper()
		l, e := EditsOf(exampleGram(), api.TracePair{A: a, B: b}, edit)
		refused(t, fmt.Sprint("EditsOf ", a, b, edit), expected, l, e)
	}
	for _, x := range [][2]api.TracePath{
		{examplePath(), path(0, 1, 1)}, {path(0, 1, 1), examplePath()}, {path(0, 1), path(1, 1)}, {path(2, 1), path(1, 1)}, {path(1, 1, 1), path(1, 1)}, {path(0, 1, 1), path(1, 1, 1)},
	} {
		check(api.ErrShape, x[0], x[1], api.TraceEdit{Number: 1, By: "ann"})
		check(api.ErrShape, x[0], x[1], api.TraceEdit{})
	}
	for _, n := range outsideOf(1, 999990) {
		check(api.ErrRange, examplePath(), examplePath(), api.TraceEdit{Number: n, By: "ann"})
		check(api.ErrRange, examplePath(), path(0, 0, 0, 0), api.TraceEdit{Number: n})
	}
	for _, name := range badNames {
		check(api.ErrName, examplePath(), examplePath(), api.TraceEdit{Number: 1, By: name})
		check(api.ErrName, examplePath(), path(0, 0, 0, 0), api.TraceEdit{Number: 999990, By: name})
	}
}

// P3.11

func TestThereAndBack(t *testing.T) {
	for seed := range 300 {
		g := emptyGram(1+seed%10, 1+seed%12)
		a := irregularPath(seed, g)
		b := path(a.From)
		next := numbers(seed + 7)
		for range a.Rows {
			b.Rows = append(b.Rows, next(len(g.Columns[0])+1)-1)
		}
		name := goodNames[seed%len(goodNames)]
		l, e := EditsOf(g, api.TracePair{A: a, B: b}, api.TraceEdit{Number: 1 + seed*3000, By: name})
		want(t, "error of EditsOf", e, api.OK)
		index, e := CheckEdits(l)
		want(t, "CheckEdits of EditsOf", results(index, e), results(0, api.OK))
		differ := 0
		for i := range a.Rows {
			if a.Rows[i] != b.Rows[i] {
				want(t, "number, column and name of an edit", results(l[differ].Number, l[differ].Column, l[differ].By), results(1+seed*3000+differ, a.From+i, name))
				differ++
			}
		}
		want(t, "number of edits", len(l), differ)
		corrected, e := Corrected(g, a, l)
		want(t, "Corrected", results(corrected, e), results(b, api.OK))

		none, e := EditsOf(g, api.TracePair{A: a, B: a}, api.TraceEdit{Number: 1, By: name})
		want(t, "EditsOf a trace to itself", results(len(none), e), results(0, api.OK))

		for _, edit := range slices.Clone(l) {
			l = append(l, withdraw(l[len(l)-1].Number+1, edit.Number))
		}
		corrected, e = Corrected(g, a, l)
		want(t, "Corrected, all edits withdrawn", results(corrected, e), results(a, api.OK))
	}
}

// P3.12

func TestMergedDoesNotDependOnOrder(t *testing.T) {
	var counts [api.ErrRefused + 1]int
	for seed := range 300 {
		whole := irregularEdits(seed, seed%21, 0, 10, 12)
		if seed%5 == 0 {
			whole = append(whole, irregularEdits(seed+1, 20-len(whole), 0, 10, 12)...)
		}
		var a, b []api.TraceEdit
		next := numbers(seed)
		for _, edit := range whole {
			part := next(3)
			if part != 1 {
				a = append(a, edit)
			}
			if part != 0 {
				b = append(b, edit)
			}
		}
		merged, e := Merged(a, b)
		other, otherError := Merged(b, a)
		_, badA := CheckEdits(a)
		_, badB := CheckEdits(b)
		counts[e]++
		if badA == api.OK && badB == api.OK {
			want(t, "Merged in the other order", results(other, otherError), results(merged, e))
			for _, edit := range merged {
				want(t, "whether an edit is of a list", slices.Contains(whole, edit), true)
			}
		}
		if badA == api.OK {
			for _, empty := range [][]api.TraceEdit{nil, {}, a} {
				same, e := Merged(a, empty)
				want(t, "Merged with itself, or with nothing", results(same, e), results(a, api.OK))
				same, e = Merged(empty, a)
				want(t, "Merged with itself, or with nothing", results(same, e), results(a, api.OK))
			}
		}
	}
	if counts[api.OK] < 30 {
		t.Error("few lists are merged:", counts)
	}
}
