package chart

import (
	"cmp"
	"fmt"
	"slices"
	"testing"

	"skywave/api"
)

// P6.6

func TestCheckGrid(t *testing.T) {
	for _, g := range [][][]int{{{0}}, {{-10000}}, {{10000}}, lastGrid(), lastGrid()[:1], {{1, 2, 3, 4, 5, 6, 7, 8}}, {{1}, {2}, {3}, {4}, {5}, {6}, {7}, {8}}} {
		row, e := CheckGrid(g)
		want(t, "CheckGrid", results(row, e), results(0, api.OK))
	}
	for seed := range 100 {
		row, e := CheckGrid(irregularGrid(seed))
		want(t, "CheckGrid", results(row, e), results(0, api.OK))
	}
	for _, x := range badGrids() {
		row, e := CheckGrid(x.g)
		want(t, "CheckGrid", results(row, e), results(x.row, x.e))
	}
}

func TestRegionOf(t *testing.T) {
	for _, x := range []struct {
		g      [][]int
		level  int
		region [][]int
	}{
		{[][]int{{5, 1}, {1, 5}}, 3, [][]int{{1, 0}, {0, 1}}},
		{[][]int{{5, 1}, {1, 5}}, 5, [][]int{{1, 0}, {0, 1}}},
		{[][]int{{5, 1}, {1, 5}}, 6, [][]int{{0, 0}, {0, 0}}},
		{[][]int{{5, 1}, {1, 5}}, 1, [][]int{{1, 1}, {1, 1}}},
		{[][]int{{-3, -2, -1}}, -2, [][]int{{0, 1, 1}}},
		{[][]int{{-10000}, {10000}}, 10000, [][]int{{0}, {1}}},
		{[][]int{{-10000}, {10000}}, -10000, [][]int{{1}, {1}}},
		{[][]int{{-10000}, {10000}}, -9999, [][]int{{0}, {1}}},
	} {
		region, e := RegionOf(x.g, x.level)
		want(t, fmt.Sprint("RegionOf ", x.g, x.level), results(region, e), results(x.region, api.OK))
	}
}

func TestContoursOf(t *testing.T) {
	hole := [][]int{{5, 5, 5}, {5, 0, 5}, {5, 5, 5}}
	around := places(0, 0, 1, 0, 2, 0, 3, 0, 3, 1, 3, 2, 3, 3, 2, 3, 1, 3, 0, 3, 0, 2, 0, 1)
	for _, x := range []struct {
		g        [][]int
		level    int
		contours [][]api.ChartPlace
	}{
		{[][]int{{5, 1}, {1, 5}}, 3, [][]api.ChartPlace{square(0, 0), square(1, 1)}},
		{[][]int{{1, 5}, {5, 1}}, 3, [][]api.ChartPlace{square(1, 0), square(0, 1)}},
		{[][]int{{5, 5}, {5, 5}}, 6, nil},
		{[][]int{{5}}, -10000, [][]api.ChartPlace{square(0, 0)}},
		{[][]int{{1, 2}, {3, 4}}, 0, [][]api.ChartPlace{places(0, 0, 1, 0, 2, 0, 2, 1, 2, 2, 1, 2, 0, 2, 0, 1)}},
		{hole, 3, [][]api.ChartPlace{around, places(1, 1, 1, 2, 2, 2, 2, 1)}},
		{hole, 0, [][]api.ChartPlace{around}},
		{[][]int{{0, 5, 0}, {5, 0, 5}, {0, 5, 0}}, 3, [][]api.ChartPlace{square(1, 0), square(0, 1), square(2, 1), square(1, 2)}},
		{[][]int{{5, 5}, {5, 0}}, 5, [][]api.ChartPlace{places(0, 0, 1, 0, 2, 0, 2, 1, 1, 1, 1, 2, 0, 2, 0, 1)}},
		// At 2, 2 two cells of the region touch, and both of their contours turn to the left there.
		{[][]int{{5, 5, 5}, {5, 0, 5}, {5, 5, 0}}, 5, [][]api.ChartPlace{
			places(0, 0, 1, 0, 2, 0, 3, 0, 3, 1, 3, 2, 2, 2, 2, 1, 1, 1, 1, 2, 2, 2, 2, 3, 1, 3, 0, 3, 0, 2, 0, 1),
		}},
	} {
		contours, e := ContoursOf(x.g, x.level)
		want(t, fmt.Sprint("ContoursOf ", x.g, x.level), results(contours, e), results(x.contours, api.OK))
	}
}

// borderSide is a side by both of its ends.
type borderSide struct{ from, to api.ChartPlace }

// kind returns the direction of a side in their order.
func (s borderSide) kind() int {
	return slices.Index([]api.ChartPlace{place(1, 0), place(0, 1), place(-1, 0), place(0, -1)}, place(s.to.X-s.from.X, s.to.Y-s.from.Y))
}

// turn is above 0 if a side turns to the left of another one.
func (s borderSide) turn(next borderSide) int {
	return (s.to.X-s.from.X)*(next.to.Y-next.from.Y) - (s.to.Y-s.from.Y)*(next.to.X-next.from.X)
}

// sidesByDefinition returns the sides of all cells of a region but for those between two of them, in order.
func sidesByDefinition(region [][]int) []borderSide {
	var list []borderSide
	isIn := func(x, y int) bool {
		return y >= 0 && y < len(region) && x >= 0 && x < len(region[y]) && region[y][x] == 1
	}
	for y := range region {
		for x := range region[y] {
			if !isIn(x, y) {
				continue
			}
			if !isIn(x, y-1) {
				list = append(list, borderSide{place(x, y), place(x+1, y)})
			}
			if !isIn(x+1, y) {
				list = append(list, borderSide{place(x+1, y), place(x+1, y+1)})
			}
			if !isIn(x, y+1) {
				list = append(list, borderSide{place(x+1, y+1), place(x, y+1)})
			}
			if !isIn(x-1, y) {
				list = append(list, borderSide{place(x, y+1), place(x, y)})
			}
		}
	}
	slices.SortFunc(list, func(a, b borderSide) int {
		return cmp.Or(a.from.Y-b.from.Y, a.from.X-b.from.X, a.kind()-b.kind())
	})
	return list
}

// contoursByDefinition joins each side with that which follows it, and goes through all of them.
func contoursByDefinition(region [][]int) [][]api.ChartPlace {
	sides := sidesByDefinition(region)
	next := make([]int, len(sides))
	for i, s := range sides {
		next[i] = -1
		for j, other := range sides {
			if other.from == s.to && (next[i] < 0 || s.turn(other) > s.turn(sides[next[i]])) {
				next[i] = j
			}
		}
	}
	var contours [][]api.ChartPlace
	done := make([]bool, len(sides))
	for first := range sides {
		var contour []api.ChartPlace
		for i := first; !done[i]; i = next[i] {
			done[i] = true
			contour = append(contour, sides[i].from)
		}
		if contour != nil {
			contours = append(contours, contour)
		}
	}
	return contours
}

// manyRegions are all regions of some small sizes, and some of greater ones.
func manyRegions() [][][]int {
	var list [][][]int
	for _, size := range [][2]int{{1, 1}, {1, 8}, {8, 1}, {2, 3}, {3, 3}, {4, 3}} {
		for bits := range 1 << (size[0] * size[1]) {
			var region [][]int
			for y := range size[1] {
				row := make([]int, size[0])
				for x := range row {
					row[x] = bits >> (y*size[0] + x) & 1
				}
				region = append(region, row)
			}
			list = append(list, region)
		}
	}
	for seed := range 400 {
		region, _ := RegionOf(irregularGrid(seed), 2+seed%6)
		list = append(list, region)
	}
	board := lastGrid()
	for y, row := range board {
		for x := range row {
			row[x] = (x + y) % 2
		}
	}
	return append(list, board)
}

func TestRegionByDefinition(t *testing.T) {
	for seed := range 200 {
		g := irregularGrid(seed)
		for level := -1; level <= 10; level++ {
			region, e := RegionOf(g, level)
			want(t, "the error and the number of rows", results(len(region), e), results(len(g), api.OK))
			for y, row := range region {
				want(t, "the number of cells", len(row), len(g[y]))
				for x, cell := range row {
					want(t, "whether a cell is in the region", cell == 1, g[y][x] >= level)
					want(t, "whether a cell is not in the region", cell == 0, g[y][x] < level)
				}
			}
		}
	}
}

func TestContoursByDefinition(t *testing.T) {
	for _, region := range manyRegions() {
		contours, e := ContoursOf(region, 1)
		want(t, fmt.Sprint("ContoursOf ", region), results(contours, e), results(contoursByDefinition(region), api.OK))
	}
}

func TestContoursOfLevels(t *testing.T) {
	for seed := range 100 {
		g := irregularGrid(seed)
		for level := -1; level <= 10; level++ {
			region, _ := RegionOf(g, level)
			contours, e := ContoursOf(g, level)
			want(t, "ContoursOf", results(contours, e), results(contoursByDefinition(region), api.OK))
		}
	}
}

// P6.14

func TestContoursAreClosed(t *testing.T) {
	for _, region := range manyRegions() {
		contours, _ := ContoursOf(region, 1)
		sum, cells := 0, 0
		for _, c := range contours {
			i, e := CheckContour(c)
			want(t, "CheckContour", results(i, e), results(0, api.OK))
			area, e := AreaOf(c)
			want(t, "AreaOf", e, api.OK)
			sum += area
		}
		for _, row := range region {
			for _, cell := range row {
				cells += cell
			}
		}
		want(t, "the sum of areas", sum, cells)
		filled, e := Filled(api.ChartSize{Width: len(region[0]), Height: len(region)}, contours)
		want(t, "Filled", results(filled, e), results(region, api.OK))
	}
}

// P6.15

func TestSidesAreThoseOfContours(t *testing.T) {
	for _, region := range manyRegions() {
		contours, _ := ContoursOf(region, 1)
		want(t, "the number of places", len(slices.Concat(contours...)), len(sidesByDefinition(region)))
	}
}
