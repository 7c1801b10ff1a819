package chart

import (
	"fmt"
	"testing"

	"skywave/api"
)

// R3: results share memory neither with arguments nor with one another, and arguments are not modified.

func TestArgumentsStay(t *testing.T) {
	a := goodArguments()
	show := func() string { return fmt.Sprint(a) }
	before := show()
	for _, call := range allCalls() {
		call.run(a)
		want(t, "arguments after "+call.name, show(), before)
	}
	FormatStation(a.stations[0])
	FormatContour(a.contour)
	want(t, "arguments after all calls", show(), before)

	weights, _ := WeightsOf(a.stations, a.at)
	rows, _ := MapOf(a.stations, a.frame)
	joined, _ := Joined(a.stations, a.others)
	same, _ := Joined(a.stations, a.stations)
	list, _ := LeftOut(a.stations)
	region, _ := RegionOf(a.grid, a.level)
	contours, _ := ContoursOf(a.grid, a.level)
	filled, _ := Filled(a.size, a.contours)
	spoil(weights, part(7, 7))
	spoil(rows[0], known(7, 7))
	spoil(joined, station("x", 7, 7, 7, 7, 7))
	spoil(same, station("x", 7, 7, 7, 7, 7))
	spoil(list, api.Span{Lo: part(7, 7)})
	spoil(region[0], 7)
	spoil(contours[0], place(7, 7))
	spoil(filled[0], 7)
	want(t, "arguments after results were changed", show(), before)
}

// No row of a result reaches into another one.
func TestRowsAreApart(t *testing.T) {
	a := goodArguments()
	for i := range 2 {
		rows, _ := MapOf(a.stations, a.frame)
		other := fmt.Sprint(rows[1-i])
		spoil(rows[i], known(7, 7))
		want(t, "the other row of a map", fmt.Sprint(rows[1-i]), other)

		region, _ := RegionOf(a.grid, a.level)
		other = fmt.Sprint(region[1-i])
		spoil(region[i], 7)
		want(t, "the other row of a region", fmt.Sprint(region[1-i]), other)

		contours, _ := ContoursOf(a.grid, a.level)
		other = fmt.Sprint(contours[1-i])
		spoil(contours[i], place(7, 7))
		want(t, "the other contour", fmt.Sprint(contours[1-i]), other)

		filled, _ := Filled(a.size, a.contours)
		other = fmt.Sprint(filled[1-i])
		spoil(filled[i], 7)
		want(t, "the other filled row", fmt.Sprint(filled[1-i]), other)
	}
}

// R3: memory beyond the end of a list is not touched.
func TestSpareMemoryStays(t *testing.T) {
	all := append(exampleStations(), station("x", 7, 7, 7, 7, 7))
	corners := append(square(0, 0), place(7, 7))
	a := goodArguments()
	a.stations, a.contour = all[:2], corners[:4]
	for _, call := range allCalls() {
		call.run(a)
	}
	FormatContour(a.contour)
	want(t, "a station behind the others", all[2], station("x", 7, 7, 7, 7, 7))
	want(t, "a place behind the others", corners[4], place(7, 7))
}

// R4: a call does not depend on what was done with the results of an earlier one.
func TestResultsAreNew(t *testing.T) {
	for range 2 {
		c, _ := ParseContour("0 0 ruld")
		want(t, "ParseContour", c, square(0, 0))
		spoil(c, place(7, 7))
		weights, _ := WeightsOf(exampleStations(), place(1, 0))
		want(t, "WeightsOf", weights, []api.Frac{part(8, 9), part(1, 9)})
		spoil(weights, part(7, 7))
		contours, _ := ContoursOf([][]int{{5}}, 5)
		want(t, "ContoursOf", contours, [][]api.ChartPlace{square(0, 0)})
		spoil(contours[0], place(7, 7))
	}
}

// A range over cells or steps may be left early.
func TestRangesAreLeft(t *testing.T) {
	for most := 1; most <= 3; most++ {
		cells := 0
		for range cellsOf(frame(0, 0, 1, 2, 2, 0)) {
			cells++
			if cells == most {
				break
			}
		}
		steps := 0
		for range stepsOf(square(0, 0)) {
			steps++
			if steps == most {
				break
			}
		}
		want(t, "cells and steps", results(cells, steps), results(most, most))
	}
}
