package chart

import (
	"fmt"
	"math"
	"math/big"
	"reflect"
	"strings"
	"testing"

	"skywave/api"
)

// want compares results with those that are expected; nil and empty slices are equal.
func want(t *testing.T, what string, got, expected any) {
	t.Helper()
	if fmt.Sprintf("%v", got) != fmt.Sprintf("%v", expected) {
		t.Errorf("%s: %v, want %v", what, got, expected)
	}
}

// results lists several results of one call.
func results(list ...any) []any { return list }

// refused checks that a call returned an error, and zero values beside it.
func refused(t *testing.T, what string, expected api.Errno, got ...any) {
	t.Helper()
	last := len(got) - 1
	if got[last] != expected {
		t.Errorf("%s: error %v, want %v", what, got[last], expected)
	}
	for _, x := range got[:last] {
		v := reflect.ValueOf(x)
		if !v.IsZero() && !(v.Kind() == reflect.Slice && v.Len() == 0) {
			t.Errorf("%s: %v beside the error %v", what, x, expected)
		}
	}
}

// numbers returns a sequence of numbers from 0 to size - 1, which looks irregular and is always the same.
func numbers(seed int) func(size int) int {
	state := uint32(seed)*2654435761 + 12345
	return func(size int) int {
		state = state*1664525 + 1013904223
		return int(state>>8) % size
	}
}

// outsideOf returns numbers that are not from least to most, among them some at which arithmetic of words overflows.
func outsideOf(least, most int) []int {
	return []int{least - 1, most + 1, math.MinInt, math.MinInt + 1, math.MaxInt - 1, math.MaxInt, 1 << 43, 1<<43 + 5, -1 << 43}
}

// spoil overwrites a list as far as its memory reaches.
func spoil[T any](list []T, item T) {
	list = list[:cap(list)]
	for i := range list {
		list[i] = item
	}
}

func rangeOf(lo, hi int) api.Range { return api.Range{Lo: lo, Hi: hi} }

func part(num, den int) api.Frac { return api.Frac{Num: num, Den: den} }

func place(x, y int) api.ChartPlace { return api.ChartPlace{X: x, Y: y} }

func vector(x, y, z int) api.ChartVector { return api.ChartVector{X: x, Y: y, Z: z} }

// places lists places by their coordinates.
func places(numbers ...int) []api.ChartPlace {
	var list []api.ChartPlace
	for i := 0; i < len(numbers); i += 2 {
		list = append(list, place(numbers[i], numbers[i+1]))
	}
	return list
}

func station(name string, x, y, lo, hi, age int) api.ChartStation {
	return api.ChartStation{Name: name, At: place(x, y), Value: rangeOf(lo, hi), Age: age}
}

// exampleStations are those of the chapter's examples.
func exampleStations() []api.ChartStation {
	return []api.ChartStation{station("a", 0, 0, 10, 10, 0), station("b", 3, 0, 40, 43, 5)}
}

// lastStations are as many stations as there may be, with the ends of all numbers.
func lastStations() []api.ChartStation {
	return []api.ChartStation{
		station("Abcdefghijkl", 30, 30, 10000, 10000, 0),
		station("z-0-9-Z", 0, 0, -10000, -10000, 9),
		station("A", 30, 0, -10000, 10000, 9),
		station("Z", 0, 30, 0, 0, 0),
		station("abcdefghijkl", 30, 30, 10000, 10000, 0),
	}
}

// irregularStations returns valid stations, some of which may be at one place.
func irregularStations(seed int) []api.ChartStation {
	next := numbers(seed)
	most := []int{3, 6, 31, 31}[seed%4]
	var list []api.ChartStation
	for i := range 1 + next(5) {
		lo := next(20001) - 10000
		hi := lo + next(10001-lo)
		if next(3) == 0 {
			hi = min(lo+next(30), 10000)
		}
		list = append(list, station(fmt.Sprint("s", i), next(most), next(most), lo, hi, next(10)))
	}
	return list
}

// goodStations are valid stations.
func goodStations() [][]api.ChartStation {
	list := [][]api.ChartStation{
		exampleStations(),
		lastStations(),
		lastStations()[:1],
		{station("a", 5, 5, 1, 2, 9), station("b", 5, 5, 3, 4, 3), station("c", 5, 5, 5, 6, 3), station("d", 6, 5, 7, 8, 0)},
	}
	for seed := range 200 {
		list = append(list, irregularStations(seed))
	}
	return list
}

// refusedStations are stations, and the index and the error with which they are refused.
type refusedStations struct {
	l     []api.ChartStation
	index int
	e     api.Errno
}

// badStations are stations that are refused.
func badStations() []refusedStations {
	var list []refusedStations
	add := func(index int, e api.Errno, l ...api.ChartStation) {
		list = append(list, refusedStations{l, index, e})
	}
	spoiled := func(index int, e api.Errno, change func(s *api.ChartStation)) {
		l := lastStations()
		change(&l[index])
		add(index, e, l...)
	}
	add(0, api.ErrShape)
	add(0, api.ErrShape, []api.ChartStation{}...)
	add(0, api.ErrLarge, append(lastStations(), station("f", 0, 0, 0, 0, 0))...)
	add(0, api.ErrLarge, make([]api.ChartStation, 6)...)
	add(0, api.ErrLarge, make([]api.ChartStation, 60000)...)
	for i := range 5 {
		for _, name := range badNames() {
			spoiled(i, api.ErrName, func(s *api.ChartStation) { s.Name = name })
			spoiled(i, api.ErrName, func(s *api.ChartStation) { *s = station(name, -1, -1, 20000, -20000, -1) })
		}
		for _, n := range outsideOf(0, 30) {
			spoiled(i, api.ErrRange, func(s *api.ChartStation) { s.At.X = n })
			spoiled(i, api.ErrRange, func(s *api.ChartStation) { s.At.Y = n })
			spoiled(i, api.ErrRange, func(s *api.ChartStation) { s.At.Y, s.Value = n, rangeOf(5, 4) })
		}
		for _, n := range outsideOf(-10000, 10000) {
			spoiled(i, api.ErrRange, func(s *api.ChartStation) { s.Value.Lo = n })
			spoiled(i, api.ErrRange, func(s *api.ChartStation) { s.Value.Hi = n })
			spoiled(i, api.ErrRange, func(s *api.ChartStation) { s.Value = rangeOf(n, n) })
		}
		for _, n := range outsideOf(0, 9) {
			spoiled(i, api.ErrRange, func(s *api.ChartStation) { s.Age = n })
			spoiled(i, api.ErrOrder, func(s *api.ChartStation) { s.Age, s.Value = n, rangeOf(5, 4) })
		}
		spoiled(i, api.ErrOrder, func(s *api.ChartStation) { s.Value = rangeOf(10000, -10000) })
		spoiled(i, api.ErrOrder, func(s *api.ChartStation) { s.Value = rangeOf(1, 0) })
		for j := range i {
			name := lastStations()[j].Name
			spoiled(i, api.ErrExists, func(s *api.ChartStation) { s.Name = name })
			spoiled(i, api.ErrExists, func(s *api.ChartStation) { *s = station(name, -1, 0, 0, 0, 0) })
			spoiled(i, api.ErrExists, func(s *api.ChartStation) { *s = station(name, 0, 0, 20000, 0, 0) })
		}
	}
	// The errors of a station come before those of the next one.
	add(0, api.ErrRange, station("a", 0, 0, 0, 0, 10), station("", 0, 0, 0, 0, 0))
	add(1, api.ErrRange, station("a", 0, 0, 0, 0, 0), station("b", 0, 0, 0, 0, -1), station("a", 0, 0, 0, 0, 0))
	add(1, api.ErrExists, station("a", 0, 0, 0, 0, 0), station("a", 0, 0, 0, 0, 0), station("7", 0, 0, 0, 0, 0))
	return list
}

// badNames are strings that are no names.
func badNames() []string {
	list := []string{"", "abcdefghijklm", strings.Repeat("a", 70000), "-", "-a", "7", "7a", "é", "aé", "a\xc3", " a", "a ", "a b"}
	for b := range 256 {
		isFirst := 'a' <= b && b <= 'z' || 'A' <= b && b <= 'Z'
		if !isFirst {
			list = append(list, string([]byte{byte(b)}))
		}
		if !isFirst && !('0' <= b && b <= '9') && b != '-' {
			list = append(list, "a"+string([]byte{byte(b)}), "Z9"+string([]byte{byte(b)})+"x")
		}
	}
	return list
}

// badPlaces are places that are refused with ErrRange.
func badPlaces() []api.ChartPlace {
	var list []api.ChartPlace
	for _, n := range outsideOf(0, 30) {
		list = append(list, place(n, 0), place(30, n), place(n, n))
	}
	return list
}

// refusedVector is a vector, and the error with which it is refused.
type refusedVector struct {
	v api.ChartVector
	e api.Errno
}

func badVectors() []refusedVector {
	list := []refusedVector{{api.ChartVector{}, api.ErrZero}}
	for _, n := range outsideOf(-1000, 1000) {
		for _, v := range []api.ChartVector{vector(n, 0, 0), vector(0, n, 0), vector(0, 0, n), vector(n, 1000, -1000), vector(1000, n, n), vector(-1000, 5, n)} {
			list = append(list, refusedVector{v, api.ErrRange})
		}
	}
	return list
}

// refusedFrame is a frame, and the error with which it is refused.
type refusedFrame struct {
	x api.ChartFrame
	e api.Errno
}

func frame(x, y, step, width, height, reach int) api.ChartFrame {
	return api.ChartFrame{From: place(x, y), Step: step, Width: width, Height: height, Reach: reach}
}

func badFrames() []refusedFrame {
	var list []refusedFrame
	add := func(e api.Errno, x api.ChartFrame) { list = append(list, refusedFrame{x, e}) }
	for _, at := range badPlaces() {
		add(api.ErrRange, frame(at.X, at.Y, 1, 1, 1, 0))
		add(api.ErrRange, frame(at.X, at.Y, 30, 8, 8, 0))
	}
	for _, n := range outsideOf(1, 30) {
		add(api.ErrRange, frame(0, 0, n, 1, 1, 0))
		add(api.ErrRange, frame(0, 0, n, 8, 8, 0))
	}
	for _, n := range outsideOf(1, 8) {
		add(api.ErrRange, frame(0, 0, 1, n, 1, 0))
		add(api.ErrRange, frame(0, 0, 1, 1, n, 0))
		add(api.ErrRange, frame(30, 30, 30, 8, n, 0))
	}
	for _, n := range outsideOf(0, 2000) {
		add(api.ErrRange, frame(0, 0, 1, 1, 1, n))
		add(api.ErrRange, frame(30, 30, 30, 8, 8, n))
	}
	for _, x := range []api.ChartFrame{
		frame(30, 30, 30, 8, 8, 2000),
		frame(30, 0, 1, 2, 1, 0),
		frame(0, 30, 1, 1, 2, 0),
		frame(1, 0, 30, 2, 1, 0),
		frame(0, 1, 30, 1, 2, 0),
		frame(0, 0, 16, 3, 1, 0),
		frame(0, 0, 16, 1, 3, 0),
		frame(24, 23, 1, 8, 8, 0),
		frame(23, 24, 1, 8, 8, 0),
		frame(0, 3, 4, 8, 8, 0),
		frame(3, 0, 4, 8, 8, 0),
	} {
		add(api.ErrBreak, x)
	}
	return list
}

// refusedGrid is a grid, and the row and the error with which it is refused.
type refusedGrid struct {
	g   [][]int
	row int
	e   api.Errno
}

// lastGrid is a grid with as many rows and cells as there may be, with the ends of values.
func lastGrid() [][]int {
	var g [][]int
	for y := range 8 {
		row := make([]int, 8)
		for x := range row {
			row[x] = []int{-10000, 10000, 0, 9999, -9999}[(3*y+x)%5]
		}
		g = append(g, row)
	}
	return g
}

func badGrids() []refusedGrid {
	var list []refusedGrid
	add := func(row int, e api.Errno, g ...[]int) { list = append(list, refusedGrid{g, row, e}) }
	spoiled := func(row int, e api.Errno, change func(g [][]int)) {
		g := lastGrid()
		change(g)
		add(row, e, g...)
	}
	add(0, api.ErrShape)
	add(0, api.ErrShape, [][]int{}...)
	add(0, api.ErrShape, nil)
	add(0, api.ErrShape, []int{}, []int{})
	add(0, api.ErrShape, []int{}, []int{1}, []int{20000})
	add(0, api.ErrLarge, append(lastGrid(), make([]int, 8))...)
	add(0, api.ErrLarge, make([][]int, 9)...)
	add(0, api.ErrLarge, make([][]int, 60000)...)
	add(0, api.ErrLarge, make([]int, 9))
	add(0, api.ErrLarge, make([]int, 9), make([]int, 8))
	add(0, api.ErrLarge, []int{1, 2, 3, 4, 5, 6, 7, 8, 20000})
	add(0, api.ErrLarge, make([]int, 60000))
	add(1, api.ErrShape, make([]int, 8), make([]int, 9))
	for y := range 8 {
		if y > 0 {
			spoiled(y, api.ErrShape, func(g [][]int) { g[y] = nil })
			spoiled(y, api.ErrShape, func(g [][]int) { g[y] = g[y][:7] })
			spoiled(y, api.ErrShape, func(g [][]int) { g[y] = append(g[y], 20000) })
			spoiled(y-1, api.ErrRange, func(g [][]int) { g[y-1][7], g[y] = 20000, nil })
		}
		for x := range 8 {
			for _, n := range outsideOf(-10000, 10000) {
				spoiled(y, api.ErrRange, func(g [][]int) { g[y][x] = n })
			}
		}
	}
	return list
}

// irregularGrid returns a valid grid of any size with values from 0 to 9.
func irregularGrid(seed int) [][]int {
	next := numbers(seed + 900)
	width := 1 + next(8)
	var g [][]int
	for range 1 + next(8) {
		row := make([]int, width)
		for x := range row {
			row[x] = next(10)
		}
		g = append(g, row)
	}
	return g
}

// refusedContour is a polygon, and the place and the error with which it is refused.
type refusedContour struct {
	c     []api.ChartPlace
	index int
	e     api.Errno
}

// square is a polygon around a cell.
func square(x, y int) []api.ChartPlace { return places(x, y, x+1, y, x+1, y+1, x, y+1) }

// longContour is a polygon with as many places as there may be: along the lower side of a row of cells to the right, and back, some of them again and again.
func longContour() []api.ChartPlace {
	c := places()
	for x := range 30 {
		c = append(c, place(x, 0))
	}
	c = append(c, place(30, 0))
	for x := 30; x >= 0; x-- {
		c = append(c, place(x, 1))
	}
	for len(c) < 200 {
		c = append(c, place(0, 2), place(0, 1))
	}
	return c
}

func badContours() []refusedContour {
	var list []refusedContour
	add := func(index int, e api.Errno, c []api.ChartPlace) {
		list = append(list, refusedContour{c, index, e})
	}
	for n := range 4 {
		add(0, api.ErrShape, square(0, 0)[:n])
		add(0, api.ErrShape, make([]api.ChartPlace, n))
	}
	add(0, api.ErrShape, places(0, 0, 1, 0))
	add(0, api.ErrShape, places(-1, 0, 1, 0))
	add(0, api.ErrLarge, append(longContour(), place(0, 2), place(0, 1)))
	add(0, api.ErrLarge, make([]api.ChartPlace, 201))
	add(0, api.ErrLarge, make([]api.ChartPlace, 60000))
	for i := range 200 {
		for _, at := range badPlaces() {
			c := longContour()
			c[i] = at
			add(i, api.ErrRange, c)
		}
	}
	add(3, api.ErrRange, places(5, 0, 1, 0, 9, 9, 0, -1))
	add(2, api.ErrRange, places(0, 0, 1, 0, 31, 0, 32, 0))
	for i := range 4 {
		for _, at := range places(7, 0, 0, 7, 20, 20, 1, 2) {
			c := square(0, 0)
			c[i] = at
			add(i%3, api.ErrGap, c) // from the last place the first one is not reached
		}
	}
	for i := range 3 {
		c := square(5, 5)
		c[i] = c[(i+3)%4]
		add(i, api.ErrGap, c)
	}
	add(0, api.ErrGap, make([]api.ChartPlace, 4))
	add(0, api.ErrGap, make([]api.ChartPlace, 200))
	add(0, api.ErrGap, places(0, 0, 1, 0, 2, 0, 3, 0))
	add(0, api.ErrGap, places(0, 0, 0, 1, 0, 2, 0, 3))
	add(2, api.ErrGap, places(1, 0, 0, 0, 1, 1, 0, 1, 0, 0))
	add(4, api.ErrGap, places(0, 0, 1, 0, 1, 1, 1, 2, 0, 1))
	add(3, api.ErrGap, places(0, 0, 1, 0, 2, 0, 0, 1))
	return list
}

// wanderings are closed polygons that go to and fro: each step is taken back later.
func wanderings() [][]api.ChartPlace {
	var list [][]api.ChartPlace
	for seed := range 300 {
		next := numbers(seed + 5000)
		var moves [][2]int
		for range 2 + next(12) {
			x, y := 1-2*next(2), 0
			if next(2) == 0 {
				x, y = y, x
			}
			moves = append(moves, [2]int{x, y}, [2]int{-x, -y})
		}
		for i := range moves {
			j := i + next(len(moves)-i)
			moves[i], moves[j] = moves[j], moves[i]
		}
		x, y := 12+next(3), 12+next(3)
		var c []api.ChartPlace
		for _, move := range moves {
			c = append(c, place(x, y))
			x, y = x+move[0], y+move[1]
		}
		list = append(list, c)
	}
	return list
}

// ratio returns a fraction for computing by definition.
func ratio(num, den int) *big.Rat { return big.NewRat(int64(num), int64(den)) }

func isSame(f api.Frac, value *big.Rat) bool {
	return value.Num().Cmp(big.NewInt(int64(f.Num))) == 0 && value.Denom().Cmp(big.NewInt(int64(f.Den))) == 0
}

// isTooLarge tells whether a part of a fraction exceeds its limit.
func isTooLarge(values ...*big.Rat) bool {
	limit := big.NewInt(1000000000)
	for _, value := range values {
		if value.Num().CmpAbs(limit) > 0 || value.Denom().Cmp(limit) > 0 {
			return true
		}
	}
	return false
}

// start returns the start of a string that may be long.
func start(s string) string { return s[:min(len(s), 60)] }

// manyTexts returns texts that are near a given one: with a part left out, doubled, or replaced.
func manyTexts(s string) []string {
	var list []string
	for i := range len(s) {
		list = append(list, s[:i]+s[i+1:], s[:i]+s[i:i+1]+s[i:])
		for _, part := range []string{" ", ";", "-", "+", "0", "9", "r", "R", "?", ".", "_", "\n", "\t", "\x00", "\xc3"} {
			list = append(list, s[:i]+part+s[i:], s[:i]+part+s[i+1:])
		}
	}
	for _, part := range []string{" ", "x", "l", "0", "\n", "-", "é"} {
		list = append(list, s+part, strings.Repeat(part, 3))
	}
	return list
}
