package chart

import (
	"fmt"
	"slices"
	"testing"

	"skywave/api"
)

// goodContours are valid polygons.
func goodContours() [][]api.ChartPlace {
	list := [][]api.ChartPlace{
		square(0, 0),
		square(29, 29),
		longContour(),
		longContour()[:62],
		twice(),
		places(0, 0, 1, 0, 0, 0, 1, 0),
		places(30, 30, 30, 29, 30, 28, 30, 29),
		places(1, 1, 1, 2, 2, 2, 2, 1),
	}
	return append(list, wanderings()...)
}

// twice is a polygon that goes around the cell 3, 3 twice.
func twice() []api.ChartPlace {
	return append(places(2, 2, 3, 2, 4, 2, 4, 3, 4, 4, 3, 4, 2, 4, 2, 3, 2, 2, 3, 2, 3, 3), places(4, 3, 4, 4, 3, 4, 3, 3, 3, 2)...)
}

// P6.7

func TestCheckContour(t *testing.T) {
	for _, c := range goodContours() {
		i, e := CheckContour(c)
		want(t, fmt.Sprint("CheckContour ", c), results(i, e), results(0, api.OK))
	}
	for _, x := range badContours() {
		i, e := CheckContour(x.c)
		want(t, fmt.Sprint("CheckContour ", x.c[:min(len(x.c), 8)]), results(i, e), results(x.index, x.e))
	}
}

// From any place on, to and fro, a polygon is one.
func TestCheckContourAgain(t *testing.T) {
	for _, c := range goodContours() {
		for i := 0; i < len(c); i += 1 + len(c)/7 {
			turned := slices.Concat(c[i:], c[:i])
			slices.Reverse(turned)
			i, e := CheckContour(turned)
			want(t, fmt.Sprint("CheckContour ", turned), results(i, e), results(0, api.OK))
		}
	}
}

func TestAreaOf(t *testing.T) {
	for _, x := range []struct {
		c    []api.ChartPlace
		area int
	}{
		{square(0, 0), 1},
		{square(29, 29), 1},
		{places(1, 1, 1, 2, 2, 2, 2, 1), -1},
		{places(0, 0, 1, 0, 2, 0, 3, 0, 3, 1, 3, 2, 3, 3, 2, 3, 1, 3, 0, 3, 0, 2, 0, 1), 9},
		{places(0, 0, 1, 0, 0, 0, 1, 0), 0},
		{longContour(), 30},
		{twice(), 5},
	} {
		area, e := AreaOf(x.c)
		want(t, fmt.Sprint("AreaOf ", x.c), results(area, e), results(x.area, api.OK))
	}
}

func TestTurnsAround(t *testing.T) {
	for _, x := range []struct {
		c     []api.ChartPlace
		cell  api.ChartPlace
		turns int
	}{
		{places(1, 1, 1, 2, 2, 2, 2, 1), place(1, 1), -1},
		{places(1, 1, 1, 2, 2, 2, 2, 1), place(0, 1), 0},
		{places(1, 1, 1, 2, 2, 2, 2, 1), place(2, 1), 0},
		{places(1, 1, 1, 2, 2, 2, 2, 1), place(1, 0), 0},
		{places(1, 1, 1, 2, 2, 2, 2, 1), place(1, 2), 0},
		{square(0, 0), place(0, 0), 1},
		{square(29, 29), place(29, 29), 1},
		{square(29, 29), place(30, 30), 0},
		{square(29, 29), place(0, 29), 0},
		{twice(), place(3, 3), 2},
		{twice(), place(3, 2), 1},
		{twice(), place(2, 3), 1},
		{twice(), place(4, 3), 0},
		{twice(), place(1, 3), 0},
		{longContour(), place(29, 0), 1},
		{longContour(), place(0, 1), 0},
	} {
		turns, e := TurnsAround(x.c, x.cell)
		want(t, fmt.Sprint("TurnsAround ", x.c, x.cell), results(turns, e), results(x.turns, api.OK))
	}
}

// turnsByDefinition counts the upward and the downward steps to the right of a cell.
func turnsByDefinition(c []api.ChartPlace, cell api.ChartPlace) int {
	turns := 0
	for i, from := range c {
		to := c[0]
		if i+1 < len(c) {
			to = c[i+1]
		}
		for k := cell.X + 1; k <= 31; k++ {
			lower, upper := place(k, cell.Y), place(k, cell.Y+1)
			if from == lower && to == upper {
				turns++
			}
			if from == upper && to == lower {
				turns--
			}
		}
	}
	return turns
}

// The area is the sum of turns around all cells.
func TestTurnsByDefinition(t *testing.T) {
	contours := goodContours()
	for i, c := range contours {
		for y := range 31 {
			for x := i % 3; x < 31; x += 3 {
				turns, e := TurnsAround(c, place(x, y))
				want(t, fmt.Sprint("TurnsAround ", c, x, y), results(turns, e), results(turnsByDefinition(c, place(x, y)), api.OK))
			}
		}
		sum := 0
		for y := range 30 {
			for x := range 30 {
				sum += turnsByDefinition(c, place(x, y))
			}
		}
		area, e := AreaOf(c)
		want(t, fmt.Sprint("AreaOf ", c), results(area, e), results(sum, api.OK))
	}
}

func TestFilled(t *testing.T) {
	hole := places(1, 1, 1, 2, 2, 2, 2, 1)
	for _, x := range []struct {
		width, height int
		l             [][]api.ChartPlace
		rows          [][]int
	}{
		{2, 1, nil, [][]int{{0, 0}}},
		{1, 2, [][]api.ChartPlace{}, [][]int{{0}, {0}}},
		{3, 2, [][]api.ChartPlace{square(0, 0), square(0, 0), square(2, 1), hole}, [][]int{{2, 0, 0}, {0, -1, 1}}},
		{1, 1, [][]api.ChartPlace{square(1, 0), square(0, 1), square(29, 29)}, [][]int{{0}}},
		{4, 5, [][]api.ChartPlace{twice()}, [][]int{{0, 0, 0, 0}, {0, 0, 0, 0}, {0, 0, 1, 1}, {0, 0, 1, 2}, {0, 0, 0, 0}}},
	} {
		rows, e := Filled(api.ChartSize{Width: x.width, Height: x.height}, x.l)
		want(t, fmt.Sprint("Filled ", x.l), results(rows, e), results(x.rows, api.OK))
	}
	many := slices.Repeat([][]api.ChartPlace{square(7, 7)}, 64)
	rows, e := Filled(api.ChartSize{Width: 8, Height: 8}, many)
	want(t, "Filled by as many as there may be", results(rows[7][7], rows[6][7], e), results(64, 0, api.OK))
	rows, e = Filled(api.ChartSize{Width: 8, Height: 8}, append(many, square(7, 7)))
	refused(t, "Filled by one more", api.ErrLarge, rows, e)
	rows, e = Filled(api.ChartSize{Width: 9, Height: 8}, append(many, square(7, 7)))
	refused(t, "Filled by one more in a grid that is too large", api.ErrRange, rows, e)
	rows, e = Filled(api.ChartSize{Width: 8, Height: 8}, append(many, nil))
	refused(t, "Filled by one more that is no polygon", api.ErrLarge, rows, e)
}

func TestFilledByDefinition(t *testing.T) {
	contours := goodContours()
	for i := range contours {
		l := contours[i:min(i+4, len(contours))]
		size := api.ChartSize{Width: 1 + i%8, Height: 1 + i/8%8}
		rows, e := Filled(size, l)
		want(t, "the error and the number of rows", results(len(rows), e), results(size.Height, api.OK))
		for y, row := range rows {
			want(t, "the number of cells", len(row), size.Width)
			for x, cell := range row {
				turns := 0
				for _, c := range l {
					turns += turnsByDefinition(c, place(x, y))
				}
				want(t, "the turns around a cell", cell, turns)
			}
		}
	}
}
