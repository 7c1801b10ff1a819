package chart

import (
	"fmt"
	"math/big"
	"testing"

	"skywave/api"
)

// P6.3

func known(lo, hi int) api.ChartCell { return api.ChartCell{Known: true, Value: rangeOf(lo, hi)} }

func TestMapOf(t *testing.T) {
	below := []api.ChartStation{station("a", 0, 0, -7, -2, 4), station("b", 2, 0, -4, 9, 4)}
	for _, x := range []struct {
		l     []api.ChartStation
		frame api.ChartFrame
		rows  [][]api.ChartCell
	}{
		{exampleStations(), frame(0, 0, 1, 2, 1, 4), [][]api.ChartCell{{known(10, 10), known(13, 14)}}},
		{exampleStations(), frame(0, 0, 1, 1, 3, 1), [][]api.ChartCell{{known(10, 10)}, {known(11, 12)}, {{}}}},
		{exampleStations(), frame(0, 0, 3, 2, 2, 0), [][]api.ChartCell{{known(10, 10), known(40, 43)}, {{}, {}}}},
		{exampleStations(), frame(3, 0, 27, 2, 2, 0), [][]api.ChartCell{{known(40, 43), {}}, {{}, {}}}},
		{below, frame(0, 0, 1, 3, 1, 2000), [][]api.ChartCell{{known(-7, -2), known(-6, 4), known(-4, 9)}}},
		{below, frame(1, 30, 30, 1, 1, 2000), [][]api.ChartCell{{known(-6, 4)}}},
	} {
		rows, e := MapOf(x.l, x.frame)
		want(t, fmt.Sprint("MapOf ", x.frame), results(rows, e), results(x.rows, api.OK))
	}
}

// isRounded tells whether a range is that of two fractions, rounded down and up.
func isRounded(r api.Range, lo, hi *big.Rat) bool {
	isFloor := ratio(r.Lo, 1).Cmp(lo) <= 0 && ratio(r.Lo+1, 1).Cmp(lo) > 0
	isCeiling := ratio(r.Hi, 1).Cmp(hi) >= 0 && ratio(r.Hi-1, 1).Cmp(hi) < 0
	return isFloor && isCeiling
}

// goodFrames are valid frames, some of which reach the limits of places.
func goodFrames(seed int) []api.ChartFrame {
	next := numbers(seed + 40)
	list := []api.ChartFrame{
		frame(0, 0, 30, 2, 2, 2000),
		frame(30, 30, 30, 1, 1, 0),
		frame(23, 23, 1, 8, 8, 50),
		frame(2, 2, 4, 8, 8, 100),
		frame(0, 30, 15, 3, 1, 2000),
		frame(30, 0, 15, 1, 3, 2000),
	}
	for range 6 {
		x := frame(next(31), next(31), 1+next(30), 1, 1, next(2001)*next(2)+next(100))
		x.Reach = min(x.Reach, 2000)
		x.Width += next(min(8, (30-x.From.X)/x.Step+1))
		x.Height += next(min(8, (30-x.From.Y)/x.Step+1))
		list = append(list, x)
	}
	return list
}

func TestMapByDefinition(t *testing.T) {
	for seed, l := range goodStations()[:80] {
		for _, x := range goodFrames(seed) {
			rows, e := MapOf(l, x)
			want(t, "the error and the number of rows", results(len(rows), e), results(x.Height, api.OK))
			for row, cells := range rows {
				want(t, "the number of cells", len(cells), x.Width)
				for column, cell := range cells {
					at := place(x.From.X+column*x.Step, x.From.Y+row*x.Step)
					known, e := IsKnown(l, at, x.Reach)
					want(t, "what is known", results(cell.Known, e), results(known, api.OK))
					lo, hi := valueByDefinition(l, at)
					if known && !isRounded(cell.Value, lo, hi) {
						t.Errorf("MapOf %v at %v: %v, want %v to %v", l, at, cell, lo, hi)
					}
					if !known {
						want(t, "an unknown cell", cell, api.ChartCell{})
					}
				}
			}
		}
	}
}

// A fraction that ValueAt refuses is not refused in a map.
func TestMapOfLargeFractions(t *testing.T) {
	l, at := apartStations()
	for i := range l {
		l[i].Value = rangeOf(100*i*i-500, 100*i*i+i)
	}
	_, e := ValueAt(l, at)
	want(t, "ValueAt", e, api.ErrLarge)
	lo, hi := valueByDefinition(l, at)
	rows, e := MapOf(l, frame(at.X, at.Y, 1, 1, 1, 2000))
	want(t, "MapOf", e, api.OK)
	if !isRounded(rows[0][0].Value, lo, hi) {
		t.Errorf("MapOf: %v, want %v to %v", rows, lo, hi)
	}
}

// P6.11

func TestGreaterReachOfMap(t *testing.T) {
	for seed, l := range goodStations()[:80] {
		for _, x := range goodFrames(seed) {
			before, _ := MapOf(l, x)
			x.Reach = min(2000, x.Reach+1+seed)
			after, e := MapOf(l, x)
			want(t, "MapOf", e, api.OK)
			for row, cells := range before {
				for column, cell := range cells {
					if cell.Known {
						want(t, "a cell with a greater reach", after[row][column], cell)
					}
				}
			}
		}
	}
}

// P6.9: a map has the value of a station at its place.
func TestMapAtStations(t *testing.T) {
	for _, l := range goodStations() {
		at := l[0].At
		value, _ := ValueAt(l, at)
		rows, e := MapOf(l, frame(at.X, at.Y, 1, 1, 1, 0))
		want(t, "MapOf at a station", results(rows, e), results([][]api.ChartCell{{known(value.Lo.Num, value.Hi.Num)}}, api.OK))
	}
}
