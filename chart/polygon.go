package chart

import (
	"iter"

	"skywave/api"
)

// CheckContour returns the error of a polygon, and the index of the place that has it.
func CheckContour(c []api.ChartPlace) (int, api.Errno) {
	e := firstError(
		errorIf(len(c) < 4, api.ErrShape),
		errorIf(len(c) > api.MaxChartContour, api.ErrLarge),
	)
	if e != api.OK {
		return 0, e
	}
	i, e := firstBad(c, func(_ int, at api.ChartPlace) api.Errno {
		return placeError(at)
	})
	if e != api.OK {
		return i, e
	}
	before := c[len(c)-1]
	return firstBad(c, func(_ int, at api.ChartPlace) api.Errno {
		isGap := directionOf(before, at) == directions
		before = at
		return errorIf(isGap, api.ErrGap)
	})
}

// AreaOf returns the area of a polygon, which is below 0 if it goes around to the right.
func AreaOf(c []api.ChartPlace) (int, api.Errno) {
	if e := contourError(c); e != api.OK {
		return 0, e
	}
	doubled := 0
	for from, to := range stepsOf(c) {
		doubled += from.X*to.Y - to.X*from.Y
	}
	return doubled / 2, api.OK
}

// TurnsAround returns how many times a polygon goes around a cell to the left.
func TurnsAround(c []api.ChartPlace, cell api.ChartPlace) (int, api.Errno) {
	if e := firstError(contourError(c), placeError(cell)); e != api.OK {
		return 0, e
	}
	return turnsAround(c, cell), api.OK
}

// Filled returns for each cell of a grid how many times polygons go around it.
func Filled(x api.ChartSize, l [][]api.ChartPlace) ([][]int, api.Errno) {
	_, polygonsError := firstBad(l, func(_ int, c []api.ChartPlace) api.Errno {
		return contourError(c)
	})
	e := firstError(
		sizeError(x),
		errorIf(len(l) > api.MaxChartContours, api.ErrLarge),
		polygonsError,
	)
	if e != api.OK {
		return nil, e
	}
	rows := make([][]int, x.Height)
	for row := range x.Height {
		rows[row] = make([]int, x.Width)
		for column := range x.Width {
			rows[row][column] = allTurnsAround(l, api.ChartPlace{X: column, Y: row})
		}
	}
	return rows, api.OK
}

func allTurnsAround(l [][]api.ChartPlace, cell api.ChartPlace) int {
	turns := 0
	for _, c := range l {
		turns += turnsAround(c, cell)
	}
	return turns
}

func turnsAround(c []api.ChartPlace, cell api.ChartPlace) int {
	turns := 0
	for from, to := range stepsOf(c) {
		isBeside := from.X > cell.X && min(from.Y, to.Y) == cell.Y
		if isBeside {
			turns += to.Y - from.Y // 0 for a step to the right or to the left
		}
	}
	return turns
}

// stepsOf ranges over the places of a polygon, each with the next one, and the last one with the first one.
func stepsOf(c []api.ChartPlace) iter.Seq2[api.ChartPlace, api.ChartPlace] {
	return func(yield func(from, to api.ChartPlace) bool) {
		for i, from := range c {
			if !yield(from, c[(i+1)%len(c)]) {
				return
			}
		}
	}
}

func contourError(c []api.ChartPlace) api.Errno {
	_, e := CheckContour(c)
	return e
}
