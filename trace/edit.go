package trace

import (
	"cmp"
	"iter"
	"maps"
	"slices"

	"skywave/api"
)

// CheckEdits returns the error of edits, and the index of the edit.
func CheckEdits(l []api.TraceEdit) (int, api.Errno) {
	if len(l) > api.MaxTraceEdits {
		return 0, api.ErrLarge
	}
	numbers, last := map[int]bool{}, 0
	return firstBad(l, func(_ int, edit api.TraceEdit) api.Errno {
		e := firstError(
			editError(edit, func(number int) bool { return numbers[number] }),
			errorIf(edit.Number <= last, api.ErrOrder),
		)
		numbers[edit.Number], last = true, edit.Number
		return e
	})
}

// Merged returns all edits of two lists.
func Merged(a, b []api.TraceEdit) ([]api.TraceEdit, api.Errno) {
	if e := firstError(editsError(a), editsError(b)); e != api.OK {
		return nil, e
	}
	byNumber := map[int]api.TraceEdit{}
	for _, edit := range slices.Concat(a, b) {
		other, known := byNumber[edit.Number]
		if known && other != edit {
			return nil, api.ErrClash
		}
		byNumber[edit.Number] = edit
	}
	merged := slices.SortedFunc(maps.Values(byNumber), func(x, y api.TraceEdit) int {
		return cmp.Compare(x.Number, y.Number)
	})
	if e := editsError(merged); e != api.OK {
		return nil, e
	}
	return merged, api.OK
}

// Corrected returns a trace with its corrections.
func Corrected(g api.TraceGram, p api.TracePath, l []api.TraceEdit) (api.TracePath, api.Errno) {
	if e := firstError(pathError(g, p), editsError(l)); e != api.OK {
		return api.TracePath{}, e
	}
	if e := targetsError(gram{g}, p, l); e != api.OK {
		return api.TracePath{}, e
	}
	decided := map[int]int{}
	for edit := range counting(l) {
		decided[edit.Column] = rowOf(edit)
	}
	rows := slices.Clone(p.Rows)
	for i := range rows {
		if row, changed := decided[p.From+i]; changed {
			rows[i] = row
		}
	}
	return api.TracePath{From: p.From, Rows: rows}, api.OK
}

// EditsOf returns the edits that make the first trace of a pair the second one.
func EditsOf(g api.TraceGram, x api.TracePair, e api.TraceEdit) ([]api.TraceEdit, api.Errno) {
	wrong := firstError(
		pairError(g, x),
		errorIf(x.A.From != x.B.From || len(x.A.Rows) != len(x.B.Rows), api.ErrShape),
		errorIf(outside(e.Number, 1, api.MaxTraceNumber-api.MaxTraceColumns), api.ErrRange),
		errorIf(!isName(e.By), api.ErrName),
	)
	if wrong != api.OK {
		return nil, wrong
	}
	var edits []api.TraceEdit
	for i, row := range x.B.Rows {
		if row == x.A.Rows[i] {
			continue
		}
		edit := api.TraceEdit{Number: e.Number + len(edits), Kind: api.TraceMove, Column: x.B.From + i, Row: row, By: e.By}
		if row == removed {
			edit.Kind, edit.Row = api.TraceRemove, 0
		}
		edits = append(edits, edit)
	}
	return edits, api.OK
}

// counting ranges over the edits of columns that are not taken back.
func counting(l []api.TraceEdit) iter.Seq[api.TraceEdit] {
	back := takenBack(l)
	return func(yield func(api.TraceEdit) bool) {
		for _, edit := range l {
			if edit.Kind != api.TraceWithdraw && !back[edit.Number] && !yield(edit) {
				return
			}
		}
	}
}

// takenBack returns the numbers of edits that are taken back. It begins with the last one, as an edit is taken back by later ones.
func takenBack(l []api.TraceEdit) map[int]bool {
	back := map[int]bool{}
	for _, edit := range slices.Backward(l) {
		if edit.Kind == api.TraceWithdraw && !back[edit.Number] {
			back[edit.Row] = true
		}
	}
	return back
}

// rowOf returns the row that an edit gives to its column.
func rowOf(edit api.TraceEdit) int {
	if edit.Kind == api.TraceRemove {
		return removed
	}
	return edit.Row
}

func editsError(l []api.TraceEdit) api.Errno {
	_, e := CheckEdits(l)
	return e
}

// editError returns the error of an edit alone, and whether the number exists that it withdraws.
func editError(edit api.TraceEdit, exists func(number int) bool) api.Errno {
	return firstError(
		errorIf(outside(edit.Number, 1, api.MaxTraceNumber), api.ErrRange),
		errorIf(outside(edit.Kind, 0, api.TraceKinds-1), api.ErrKind),
		targetError(edit, exists),
		errorIf(!isName(edit.By), api.ErrName),
	)
}

// targetError returns the error of the column and the row of an edit.
func targetError(edit api.TraceEdit, exists func(number int) bool) api.Errno {
	if edit.Kind == api.TraceWithdraw {
		return firstError(
			errorIf(edit.Column != 0, api.ErrForm),
			errorIf(!exists(edit.Row), api.ErrMissing),
		)
	}
	e := errorIf(outside(edit.Column, 0, api.MaxTraceColumns-1), api.ErrRange)
	if edit.Kind == api.TraceRemove {
		return firstError(e, errorIf(edit.Row != 0, api.ErrForm))
	}
	return firstError(e, errorIf(outside(edit.Row, 0, api.MaxTraceRows-1), api.ErrRange))
}

// targetsError returns the error of edits, taken back or not, whose cell a trace or its ionogram does not have.
func targetsError(g gram, p api.TracePath, l []api.TraceEdit) api.Errno {
	_, e := firstBad(l, func(_ int, edit api.TraceEdit) api.Errno {
		has := pathHasColumn(p, edit.Column) && edit.Row < g.height()
		return errorIf(edit.Kind != api.TraceWithdraw && !has, api.ErrMissing)
	})
	return e
}
