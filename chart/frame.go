package chart

import (
	"iter"

	"skywave/api"
)

// MapOf returns the map of a frame, row by row.
func MapOf(l []api.ChartStation, x api.ChartFrame) ([][]api.ChartCell, api.Errno) {
	if e := firstError(stationsError(l), frameError(x)); e != api.OK {
		return nil, e
	}
	rows := make([][]api.ChartCell, x.Height)
	for row, at := range cellsOf(x) {
		rows[row] = append(rows[row], cellAt(l, at, x.Reach))
	}
	return rows, api.OK
}

// cellsOf ranges over the cells of a frame, row by row: their rows and their places.
func cellsOf(x api.ChartFrame) iter.Seq2[int, api.ChartPlace] {
	return func(yield func(int, api.ChartPlace) bool) {
		for row := range x.Height {
			for column := range x.Width {
				at := api.ChartPlace{X: x.From.X + x.Step*column, Y: x.From.Y + x.Step*row}
				if !yield(row, at) {
					return
				}
			}
		}
	}
}

func cellAt(l []api.ChartStation, at api.ChartPlace, reach int) api.ChartCell {
	if !isKnown(l, at, reach) {
		return api.ChartCell{}
	}
	value := valueAt(l, at)
	return api.ChartCell{Known: true, Value: api.Range{Lo: floorOf(value.Lo), Hi: ceilingOf(value.Hi)}}
}

func frameError(x api.ChartFrame) api.Errno {
	e := firstError(
		placeError(x.From),
		errorIf(outside(x.Step, 1, api.MaxChartPlace), api.ErrRange),
		sizeError(api.ChartSize{Width: x.Width, Height: x.Height}),
		reachError(x.Reach),
	)
	if e != api.OK {
		return e
	}
	for _, at := range cellsOf(x) {
		if placeError(at) != api.OK {
			return api.ErrBreak
		}
	}
	return api.OK
}

func sizeError(x api.ChartSize) api.Errno {
	return errorIf(outside(x.Width, 1, api.MaxChartCells) || outside(x.Height, 1, api.MaxChartCells), api.ErrRange)
}
