package trace

import (
	"iter"

	"skywave/api"
)

// removed is the row of a column in which a trace has none.
const removed = -1

// CheckPath returns the error of a trace, and the index of its row.
func CheckPath(g api.TraceGram, p api.TracePath) (int, api.Errno) {
	e := firstError(
		gramError(g),
		errorIf(!hasColumn(g, p.From), api.ErrMissing),
		errorIf(len(p.Rows) == 0, api.ErrShape),
		errorIf(len(p.Rows) > len(g.Columns)-p.From, api.ErrLarge),
	)
	if e != api.OK {
		return 0, e
	}
	height := gram{g}.height()
	return firstBad(p.Rows, func(_, row int) api.Errno {
		return errorIf(outside(row, removed, height-1), api.ErrRange)
	})
}

// PointsOf returns the points of a trace.
func PointsOf(g api.TraceGram, p api.TracePath) ([]api.TracePoint, api.Errno) {
	if e := pathError(g, p); e != api.OK {
		return nil, e
	}
	var list []api.TracePoint
	for column, row := range points(p) {
		list = append(list, api.TracePoint{
			Frequency: gram{g}.frequency(column),
			Delay:     api.Range{Lo: row, Hi: row + 1},
		})
	}
	return list, api.OK
}

// points ranges over the columns in which a trace has a row, and their rows.
func points(p api.TracePath) iter.Seq2[int, int] {
	return func(yield func(column, row int) bool) {
		for i, row := range p.Rows {
			if row != removed && !yield(p.From+i, row) {
				return
			}
		}
	}
}

// pathError returns the error of an ionogram, and then that of a trace.
func pathError(g api.TraceGram, p api.TracePath) api.Errno {
	_, e := CheckPath(g, p)
	return e
}

// pairError returns the error of an ionogram, and then that of a pair.
func pairError(g api.TraceGram, x api.TracePair) api.Errno {
	return firstError(pathError(g, x.A), pathError(g, x.B))
}

// pathHasColumn tells whether a column is one of a trace, with a row or without.
func pathHasColumn(p api.TracePath, column int) bool {
	return !outside(column-p.From, 0, len(p.Rows)-1)
}
