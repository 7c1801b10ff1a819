package trace

import "skywave/api"

// CheckGram returns the error of an ionogram, and the index of its column.
func CheckGram(g api.TraceGram) (int, api.Errno) {
	e := firstError(
		errorIf(outside(g.First, 1, api.MaxTraceFrequency) || outside(g.Step, 1, api.MaxTraceFrequency), api.ErrRange),
		errorIf(len(g.Columns) == 0, api.ErrShape),
		errorIf(len(g.Columns) > api.MaxTraceColumns, api.ErrLarge),
	)
	if e != api.OK {
		return 0, e
	}
	return firstBad(g.Columns, func(_ int, column []api.TraceCell) api.Errno {
		return columnError(column, len(g.Columns[0]))
	})
}

// FrequencyAt returns the frequency of a column.
func FrequencyAt(g api.TraceGram, column int) (int, api.Errno) {
	e := firstError(gramError(g), errorIf(!hasColumn(g, column), api.ErrMissing))
	if e != api.OK {
		return 0, e
	}
	return gram{g}.frequency(column), api.OK
}

// gram is a valid ionogram.
type gram struct{ api.TraceGram }

func (g gram) frequency(column int) int {
	return g.First + column*g.Step
}

// height returns the number of rows, which is the same in all columns.
func (g gram) height() int {
	return len(g.Columns[0])
}

func gramError(g api.TraceGram) api.Errno {
	_, e := CheckGram(g)
	return e
}

func columnError(column []api.TraceCell, height int) api.Errno {
	e := firstError(
		errorIf(len(column) == 0 || len(column) != height, api.ErrShape),
		errorIf(len(column) > api.MaxTraceRows, api.ErrLarge),
	)
	if e != api.OK {
		return e
	}
	_, e = firstBad(column, func(_ int, cell api.TraceCell) api.Errno {
		return firstError(
			errorIf(outside(cell.Amplitude, 0, api.MaxTraceAmplitude), api.ErrRange),
			errorIf(outside(cell.Tag, 0, api.TraceTags-1), api.ErrKind),
		)
	})
	return e
}

func hasColumn(g api.TraceGram, column int) bool {
	return !outside(column, 0, len(g.Columns)-1)
}

// tagError returns the error of the tag of one polarisation.
func tagError(tag int) api.Errno {
	return errorIf(tag != api.TraceOrdinary && tag != api.TraceExtra, api.ErrKind)
}
