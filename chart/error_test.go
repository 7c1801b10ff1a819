package chart

import (
	"slices"
	"strings"
	"testing"

	"skywave/api"
)

// arguments are those of all calls that return errors, but for lists of polygons.
type arguments struct {
	stations, others         []api.ChartStation
	at                       api.ChartPlace
	reach                    int
	frame                    api.ChartFrame
	sun, place               api.ChartVector
	twilight, quarter        int
	grid                     [][]int
	level                    int
	contour                  []api.ChartPlace
	size                     api.ChartSize
	contours                 [][]api.ChartPlace
	stationText, contourText string
}

// call is a call, and the letters of the arguments whose errors it returns, in the order of these errors.
type call struct {
	name, order string
	run         func(a arguments) []any
}

func goodArguments() arguments {
	return arguments{
		stations:    exampleStations(),
		others:      []api.ChartStation{station("c", 5, 5, 1, 2, 3)},
		at:          place(1, 1),
		reach:       4,
		frame:       frame(0, 0, 1, 2, 2, 4),
		sun:         vector(100, 0, 10),
		place:       vector(50, 80, 0),
		twilight:    1000,
		quarter:     1,
		grid:        [][]int{{5, 1}, {1, 5}},
		level:       3,
		contour:     square(0, 0),
		size:        api.ChartSize{Width: 2, Height: 2},
		contours:    [][]api.ChartPlace{square(0, 0), square(1, 1)},
		stationText: "b 3 0 40 43 5",
		contourText: "0 0 ruld",
	}
}

// allCalls are all calls that return errors.
func allCalls() []call {
	list := func(list ...any) []any { return list }
	return []call{
		{"CheckStations", "s", func(a arguments) []any { _, e := CheckStations(a.stations); return list(e) }},
		{"WeightsOf", "sp", func(a arguments) []any { l, e := WeightsOf(a.stations, a.at); return list(l, e) }},
		{"ValueAt", "sp", func(a arguments) []any { x, e := ValueAt(a.stations, a.at); return list(x, e) }},
		{"IsKnown", "spr", func(a arguments) []any { x, e := IsKnown(a.stations, a.at, a.reach); return list(x, e) }},
		{"MapOf", "sf", func(a arguments) []any { l, e := MapOf(a.stations, a.frame); return list(l, e) }},
		{"Joined", "so", func(a arguments) []any { l, e := Joined(a.stations, a.others); return list(l, e) }},
		{"LeftOut", "s", func(a arguments) []any { l, e := LeftOut(a.stations); return list(l, e) }},
		{"WorstOf", "s", func(a arguments) []any { s, e := WorstOf(a.stations); return list(s, e) }},
		{"LitAt", "vwt", func(a arguments) []any { n, e := LitAt(a.sun, a.place, a.twilight); return list(n, e) }},
		{"SunAt", "vq", func(a arguments) []any { v, e := SunAt(api.ChartDay{Noon: a.sun}, a.quarter); return list(v, e) }},
		{"CheckGrid", "g", func(a arguments) []any { _, e := CheckGrid(a.grid); return list(e) }},
		{"RegionOf", "gl", func(a arguments) []any { l, e := RegionOf(a.grid, a.level); return list(l, e) }},
		{"ContoursOf", "gl", func(a arguments) []any { l, e := ContoursOf(a.grid, a.level); return list(l, e) }},
		{"CheckContour", "c", func(a arguments) []any { _, e := CheckContour(a.contour); return list(e) }},
		{"AreaOf", "c", func(a arguments) []any { n, e := AreaOf(a.contour); return list(n, e) }},
		{"TurnsAround", "cp", func(a arguments) []any { n, e := TurnsAround(a.contour, a.at); return list(n, e) }},
		{"Filled", "zm", func(a arguments) []any { l, e := Filled(a.size, a.contours); return list(l, e) }},
		{"ParseStation", "S", func(a arguments) []any { s, e := ParseStation(a.stationText); return list(s, e) }},
		{"ParseContour", "C", func(a arguments) []any { c, e := ParseContour(a.contourText); return list(c, e) }},
	}
}

// spoiled is a change of an argument, and the error that it causes.
type spoiled struct {
	change func(a *arguments)
	e      api.Errno
}

// badArguments returns for each letter of an argument what it may be wrong in.
func badArguments() map[string][]spoiled {
	bad := map[string][]spoiled{}
	add := func(letter string, e api.Errno, change func(a *arguments)) {
		bad[letter] = append(bad[letter], spoiled{change, e})
	}
	for _, x := range badStations() {
		add("s", x.e, func(a *arguments) { a.stations = x.l })
		add("o", x.e, func(a *arguments) { a.others = x.l })
	}
	for _, at := range badPlaces() {
		add("p", api.ErrRange, func(a *arguments) { a.at = at })
	}
	for _, x := range badFrames() {
		add("f", x.e, func(a *arguments) { a.frame = x.x })
	}
	for _, x := range badVectors() {
		add("v", x.e, func(a *arguments) { a.sun = x.v })
		add("w", x.e, func(a *arguments) { a.place = x.v })
	}
	for _, x := range badGrids() {
		add("g", x.e, func(a *arguments) { a.grid = x.g })
	}
	for _, x := range badContours() {
		add("c", x.e, func(a *arguments) { a.contour = x.c })
		add("m", x.e, func(a *arguments) { a.contours = [][]api.ChartPlace{square(0, 0), x.c, nil} })
	}
	add("m", api.ErrLarge, func(a *arguments) { a.contours = make([][]api.ChartPlace, 65) })
	add("m", api.ErrShape, func(a *arguments) { a.contours = make([][]api.ChartPlace, 64) })
	addNumbers(add)
	return bad
}

func addNumbers(add func(letter string, e api.Errno, change func(a *arguments))) {
	for _, x := range []struct {
		letter      string
		least, most int
		change      func(a *arguments, n int)
	}{
		{"r", 0, 2000, func(a *arguments, n int) { a.reach = n }},
		{"t", 0, 4000000, func(a *arguments, n int) { a.twilight = n }},
		{"q", 0, 1000000000000, func(a *arguments, n int) { a.quarter = n }},
		{"l", -10000, 10000, func(a *arguments, n int) { a.level = n }},
		{"z", 1, 8, func(a *arguments, n int) { a.size.Width = n }},
		{"z", 1, 8, func(a *arguments, n int) { a.size.Height = n }},
	} {
		for _, n := range outsideOf(x.least, x.most) {
			add(x.letter, api.ErrRange, func(a *arguments) { x.change(a, n) })
		}
	}
	add("S", api.ErrSyntax, func(a *arguments) { a.stationText = "b 3 0 40 43" })
	add("C", api.ErrOpen, func(a *arguments) { a.contourText = "0 0 rulu" })
}

// P6.1 to P6.8: the errors of arguments.
func TestErrorsOfArguments(t *testing.T) {
	bad := badArguments()
	for _, call := range allCalls() {
		got := call.run(goodArguments())
		want(t, call.name, got[len(got)-1], api.OK)
		for letter, list := range bad {
			for _, x := range list {
				a := goodArguments()
				x.change(&a)
				if got := call.run(a); strings.Contains(call.order, letter) {
					refused(t, call.name+" with a bad "+letter, x.e, got...)
				} else {
					want(t, call.name+" with a bad argument that it has not", got[len(got)-1], api.OK)
				}
			}
		}
	}
}

// R1, R9: of the errors of two arguments the first one is returned.
func TestErrorsInOrder(t *testing.T) {
	bad := badArguments()
	for letter, list := range bad {
		slices.SortStableFunc(list, func(a, b spoiled) int { return int(a.e - b.e) })
		bad[letter] = slices.CompactFunc(list, func(a, b spoiled) bool { return a.e == b.e })
	}
	for _, call := range allCalls() {
		for i := range len(call.order) {
			for j := range i {
				for _, first := range bad[call.order[j:j+1]] {
					for _, second := range bad[call.order[i:i+1]] {
						a := goodArguments()
						first.change(&a)
						second.change(&a)
						refused(t, call.name+" with two errors", first.e, call.run(a)...)
					}
				}
			}
		}
	}
}

// The error of a station comes before that there is only one.
func TestErrorsOfOneStation(t *testing.T) {
	for _, s := range []api.ChartStation{station("7", 0, 0, 0, 0, 0), station("", 0, 0, 0, 0, 0)} {
		list, e := LeftOut([]api.ChartStation{s})
		refused(t, "LeftOut", api.ErrName, list, e)
		name, e := WorstOf([]api.ChartStation{s})
		refused(t, "WorstOf", api.ErrName, name, e)
	}
}

// The errors of all arguments come before those of results.
func TestErrorsOfResultsAreLast(t *testing.T) {
	l, at := apartStations()
	for _, x := range badPlaces() {
		weights, e := WeightsOf(l, x)
		refused(t, "WeightsOf", api.ErrRange, weights, e)
	}
	known, e := IsKnown(l, at, -1)
	refused(t, "IsKnown", api.ErrRange, known, e)
	b := exampleStations()[1]
	b.Value.Hi++
	joined, e := Joined(exampleStations(), []api.ChartStation{b, station("7", 0, 0, 0, 0, 0)})
	refused(t, "Joined", api.ErrName, joined, e)
}

// Numbers at their limits are not refused.
func TestNumbersAtLimits(t *testing.T) {
	for _, reach := range []int{0, 2000} {
		_, e := IsKnown(lastStations(), place(30, 0), reach)
		_, o := MapOf(lastStations(), frame(0, 0, 30, 2, 2, reach))
		want(t, "a reach", results(e, o), results(api.OK, api.OK))
	}
	for _, twilight := range []int{0, 4000000} {
		_, e := LitAt(vector(0, 0, 1), vector(1000, -1000, 1000), twilight)
		want(t, "a twilight", e, api.OK)
	}
	for _, quarter := range []int{0, 1000000000000} {
		_, e := SunAt(api.ChartDay{Noon: vector(0, 0, 1)}, quarter)
		want(t, "a quarter", e, api.OK)
	}
	for _, level := range []int{-10000, 10000} {
		_, e := RegionOf(lastGrid(), level)
		_, o := ContoursOf(lastGrid(), level)
		want(t, "a level", results(e, o), results(api.OK, api.OK))
	}
	for _, n := range []int{1, 8} {
		_, e := Filled(api.ChartSize{Width: n, Height: 9 - n}, nil)
		_, o := MapOf(lastStations(), frame(0, 0, 1, n, 9-n, 0))
		want(t, "a size", results(e, o), results(api.OK, api.OK))
	}
	for _, at := range places(0, 0, 30, 30, 0, 30, 30, 0) {
		_, e := ValueAt(exampleStations(), at)
		_, o := TurnsAround(square(0, 0), at)
		_, m := MapOf(exampleStations(), frame(at.X, at.Y, 30, 1, 1, 0))
		want(t, "a place", results(e, o, m), results(api.OK, api.OK, api.OK))
	}
}
