package chart

import "skywave/api"

// CheckGrid returns the error of a grid, and the index of the row that has it.
func CheckGrid(g [][]int) (int, api.Errno) {
	e := firstError(
		errorIf(len(g) == 0, api.ErrShape),
		errorIf(len(g) > api.MaxChartCells, api.ErrLarge),
	)
	if e != api.OK {
		return 0, e
	}
	return firstBad(g, func(_ int, row []int) api.Errno {
		return firstError(
			errorIf(len(row) == 0 || len(row) != len(g[0]), api.ErrShape),
			errorIf(len(row) > api.MaxChartCells, api.ErrLarge),
			valuesError(row),
		)
	})
}

// RegionOf returns the region of a level.
func RegionOf(g [][]int, level int) ([][]int, api.Errno) {
	if e := firstError(gridError(g), levelError(level)); e != api.OK {
		return nil, e
	}
	return regionOf(g, level), api.OK
}

// ContoursOf returns the contours of the region of a level.
func ContoursOf(g [][]int, level int) ([][]api.ChartPlace, api.Errno) {
	if e := firstError(gridError(g), levelError(level)); e != api.OK {
		return nil, e
	}
	return contoursOf(regionOf(g, level)), api.OK
}

func regionOf(g [][]int, level int) [][]int {
	cells := make([][]int, len(g))
	for y := range len(g) {
		cells[y] = make([]int, len(g[y]))
		for x, value := range g[y] {
			if value >= level {
				cells[y][x] = 1
			}
		}
	}
	return cells
}

func gridError(g [][]int) api.Errno {
	_, e := CheckGrid(g)
	return e
}

func valuesError(row []int) api.Errno {
	_, e := firstBad(row, func(_, value int) api.Errno {
		return levelError(value)
	})
	return e
}

func levelError(level int) api.Errno {
	return errorIf(isLargeValue(level), api.ErrRange)
}
