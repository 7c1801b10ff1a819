package ray

import (
	"fmt"
	"math"
	"math/big"
	"reflect"
	"strings"
	"testing"

	"skywave/api"
)

// want compares results with those that are expected; nil and empty slices are equal.
func want(t *testing.T, what string, got, expected any) {
	t.Helper()
	if fmt.Sprintf("%v", got) != fmt.Sprintf("%v", expected) {
		t.Errorf("%s: %v, want %v", what, got, expected)
	}
}

// results lists several results of one call.
func results(list ...any) []any { return list }

// refused checks that a call returned an error, and zero values beside it.
func refused(t *testing.T, what string, expected api.Errno, got ...any) {
	t.Helper()
	last := len(got) - 1
	if got[last] != expected {
		t.Errorf("%s: error %v, want %v", what, got[last], expected)
	}
	for _, x := range got[:last] {
		v := reflect.ValueOf(x)
		if !v.IsZero() && !(v.Kind() == reflect.Slice && v.Len() == 0) {
			t.Errorf("%s: %v beside the error %v", what, x, expected)
		}
	}
}

// numbers returns a sequence of numbers from 0 to size - 1, which looks irregular and is always the same.
func numbers(seed int) func(size int) int {
	state := uint32(seed)*2654435761 + 12345
	return func(size int) int {
		state = state*1664525 + 1013904223
		return int(state>>8) % size
	}
}

// outsideOf returns numbers that are not from least to most, among them some at which arithmetic of words overflows.
func outsideOf(least, most int) []int {
	return []int{least - 1, most + 1, math.MinInt, math.MinInt + 1, math.MaxInt - 1, math.MaxInt, 1 << 32, 1<<32 + 300, -300}
}

// spoil overwrites a list as far as its memory reaches.
func spoil[T any](list []T, item T) {
	list = list[:cap(list)]
	for i := range list {
		list[i] = item
	}
}

func rangeOf(lo, hi int) api.Range { return api.Range{Lo: lo, Hi: hi} }

func part(num, den int) api.Frac { return api.Frac{Num: num, Den: den} }

// parts lists fractions by their numerators and denominators.
func parts(numbers ...int) []api.Frac {
	var list []api.Frac
	for i := 0; i < len(numbers); i += 2 {
		list = append(list, part(numbers[i], numbers[i+1]))
	}
	return list
}

func aimed(frequency, num, den int) api.RayShot {
	return api.RayShot{Frequency: frequency, Launch: part(num, den)}
}

// sky returns a sky by its height, and the thicknesses and squares of its slabs.
func sky(height int, slabs ...int) api.RaySky {
	s := api.RaySky{Height: height}
	for i := 0; i < len(slabs); i += 2 {
		s.Slabs = append(s.Slabs, api.RaySlab{Thickness: slabs[i], Square: slabs[i+1]})
	}
	return s
}

// exampleSky is the sky s of the chapter's examples, simpleSky that of the sixth one.
func exampleSky() api.RaySky { return sky(100, 50, 90000, 50, 360000, 50, 810000) }
func simpleSky() api.RaySky  { return sky(100, 50, 810000) }

// lastSky returns a sky with as many slabs as there may be, the highest of all.
func lastSky() api.RaySky {
	s := api.RaySky{Height: 500}
	for i := range 12 {
		s.Slabs = append(s.Slabs, api.RaySlab{Thickness: 500, Square: 8999989 + i})
	}
	s.Slabs[11].Square = 9000000
	return s
}

// irregularSky returns a valid sky, which has more or less plasma from slab to slab.
func irregularSky(seed int) api.RaySky {
	next := numbers(seed)
	s := api.RaySky{Height: 1 + next(500)}
	most := []int{100, 10000, 1000000, 9000001}[seed%4]
	for range 1 + next(12) {
		slab := api.RaySlab{Thickness: 1 + next(500), Square: next(most)}
		if next(6) == 0 {
			slab.Square = 0
		}
		s.Slabs = append(s.Slabs, slab)
	}
	return s
}

// goodSkies are valid skies.
func goodSkies() []api.RaySky {
	list := []api.RaySky{exampleSky(), simpleSky(), lastSky(), sky(1, 1, 0), sky(500, 500, 9000000), sky(1, 1, 1), sky(7, 3, 0, 3, 0, 3, 0)}
	for seed := range 200 {
		list = append(list, irregularSky(seed))
	}
	return list
}

// refusedSky is a sky, and the slab and the error with which it is refused.
type refusedSky struct {
	s    api.RaySky
	slab int
	e    api.Errno
}

// badSkies are skies that are refused.
func badSkies() []refusedSky {
	var list []refusedSky
	add := func(slab int, e api.Errno, s api.RaySky) { list = append(list, refusedSky{s, slab, e}) }
	for _, n := range outsideOf(1, 500) {
		add(0, api.ErrRange, sky(n, 50, 90000, 50, 810000))
		add(0, api.ErrRange, sky(n))
		add(0, api.ErrRange, sky(n, make([]int, 26)...))
		for slab := range 12 {
			s := lastSky()
			s.Slabs[slab].Thickness = n
			add(slab, api.ErrRange, s)
		}
		add(1, api.ErrRange, sky(100, 50, 90000, n, 90000, 50, -1))
	}
	for _, n := range outsideOf(0, 9000000) {
		for slab := range 12 {
			s := lastSky()
			s.Slabs[slab].Square = n
			add(slab, api.ErrRange, s)
		}
		add(0, api.ErrRange, sky(100, 50, n, 0, 90000))
	}
	add(0, api.ErrShape, sky(1))
	add(0, api.ErrShape, api.RaySky{Height: 500, Slabs: []api.RaySlab{}})
	add(0, api.ErrLarge, sky(1, make([]int, 26)...))
	add(0, api.ErrLarge, sky(500, make([]int, 2000)...))
	long := lastSky()
	long.Slabs = append(long.Slabs, api.RaySlab{Thickness: 1})
	add(0, api.ErrLarge, long)
	return list
}

// refusedLaunch is a launch, and the error with which it is refused.
type refusedLaunch struct {
	launch api.Frac
	e      api.Errno
}

// badLaunches are launches that are refused.
func badLaunches() []refusedLaunch {
	var list []refusedLaunch
	add := func(e api.Errno, launches ...api.Frac) {
		for _, launch := range launches {
			list = append(list, refusedLaunch{launch, e})
		}
	}
	add(api.ErrForm, parts(0, 0, 1, 0, 5, 0, -1, 0, 0, 2, 0, 100, 2, 4, 2, 2, 50, 100, 99, 99, -2, 4, 6, 3, 202, 404, 101, 202, 0, 101)...)
	add(api.ErrForm, parts(0, -1, 1, -2, -1, -2, 1, math.MinInt, math.MinInt, math.MinInt, math.MinInt, -1, math.MinInt, 2, math.MaxInt, math.MaxInt, 0, math.MaxInt)...)
	add(api.ErrRange, parts(1, 1, 2, 1, -1, 1, 5, 4, -1, 4, 100, 99, 101, 100, 1, 101, 50, 101, 1, 1000, math.MaxInt-1, math.MaxInt)...)
	add(api.ErrRange, parts(math.MinInt, 1, math.MinInt, 3, math.MinInt, math.MaxInt, math.MaxInt, 1, math.MaxInt, 2, 1, math.MaxInt, 1, math.MaxInt-1)...)
	return list
}

// refusedTask is a task, and the error with which it is refused.
type refusedTask struct {
	t api.RayTask
	e api.Errno
}

// lastTask returns a task with the ends of all numbers.
func lastTask() api.RayTask {
	t := api.RayTask{Grid: 100, Target: rangeOf(0, 2000000)}
	for i := range 30 {
		t.Frequencies = append(t.Frequencies, 1+i)
	}
	t.Frequencies[29] = 3000
	return t
}

// badTasks are tasks that are refused.
func badTasks() []refusedTask {
	var list []refusedTask
	add := func(e api.Errno, change func(t *api.RayTask)) {
		t := lastTask()
		change(&t)
		list = append(list, refusedTask{t, e})
	}
	many := func(t *api.RayTask) { t.Frequencies = make([]int, 31) }
	for _, n := range outsideOf(1, 100) {
		add(api.ErrRange, func(t *api.RayTask) { t.Grid = n })
		add(api.ErrRange, func(t *api.RayTask) { t.Grid, t.Target = n, rangeOf(2, 1) })
	}
	for _, n := range outsideOf(0, 2000000) {
		add(api.ErrRange, func(t *api.RayTask) { t.Target.Lo = n })
		add(api.ErrRange, func(t *api.RayTask) { t.Target.Hi = n })
		add(api.ErrRange, func(t *api.RayTask) { t.Target, t.Frequencies = rangeOf(n, 0), nil })
		add(api.ErrRange, func(t *api.RayTask) { t.Target = rangeOf(2000000, n); many(t) })
	}
	add(api.ErrOrder, func(t *api.RayTask) { t.Target = rangeOf(1, 0) })
	add(api.ErrOrder, func(t *api.RayTask) { t.Target, t.Frequencies = rangeOf(2000000, 1999999), nil })
	add(api.ErrOrder, func(t *api.RayTask) { t.Target = rangeOf(1, 0); many(t) })
	add(api.ErrOrder, func(t *api.RayTask) { t.Target, t.Frequencies = rangeOf(1, 0), []int{0} })
	add(api.ErrShape, func(t *api.RayTask) { t.Frequencies = nil })
	add(api.ErrShape, func(t *api.RayTask) { t.Frequencies = []int{} })
	add(api.ErrLarge, many)
	add(api.ErrLarge, func(t *api.RayTask) { t.Frequencies = make([]int, 3000) })
	add(api.ErrLarge, func(t *api.RayTask) { t.Frequencies[29] = 30; t.Frequencies = append(t.Frequencies, 31) })
	for i := range 30 {
		for _, n := range outsideOf(1, 3000) {
			add(api.ErrRange, func(t *api.RayTask) { t.Frequencies[i] = n })
		}
		if i > 0 {
			add(api.ErrOrder, func(t *api.RayTask) { t.Frequencies[i] = t.Frequencies[i-1] })
			add(api.ErrOrder, func(t *api.RayTask) { t.Frequencies[i-1], t.Frequencies[i] = 40+i, 39+i })
		}
	}
	add(api.ErrRange, func(t *api.RayTask) { t.Frequencies = []int{5, 0, 3} })
	add(api.ErrOrder, func(t *api.RayTask) { t.Frequencies = []int{5, 4, 0} })
	return list
}

// refusedField is a field, and the error with which it is refused.
type refusedField struct {
	f api.RayField
	e api.Errno
}

// badFields are fields that are refused.
func badFields() []refusedField {
	var list []refusedField
	add := func(e api.Errno, gyro, lo, hi int) {
		list = append(list, refusedField{api.RayField{Gyro: gyro, Along: rangeOf(lo, hi)}, e})
	}
	for _, n := range outsideOf(0, 300) {
		add(api.ErrRange, n, 0, 0)
		add(api.ErrRange, n, 1, 0)
	}
	for _, n := range append(outsideOf(-100, 100), -101, 101) {
		add(api.ErrRange, 0, n, 100)
		add(api.ErrRange, 300, -100, n)
		add(api.ErrRange, 300, n, -100)
		add(api.ErrRange, 300, 100, n)
	}
	add(api.ErrOrder, 0, 1, 0)
	add(api.ErrOrder, 300, 100, -100)
	add(api.ErrOrder, 300, -99, -100)
	return list
}

// refusedLink is a link, and the slab and the error with which it is refused.
type refusedLink struct {
	l    api.RayLink
	slab int
	e    api.Errno
}

// badLinks are links that are refused.
func badLinks() []refusedLink {
	var list []refusedLink
	add := func(slab int, e api.Errno, up, down api.RaySky) {
		list = append(list, refusedLink{api.RayLink{Up: up, Down: down}, slab, e})
	}
	for _, x := range badSkies() {
		add(x.slab, x.e, x.s, exampleSky())
		add(x.slab, x.e, exampleSky(), x.s)
		add(x.slab, x.e, x.s, sky(0))
		add(x.slab, x.e, x.s, x.s)
	}
	add(1, api.ErrRange, sky(5, 1, 1, 0, 1), sky(5))
	add(0, api.ErrShape, sky(5), sky(0, 1, 1))
	add(0, api.ErrClash, sky(100, 5, 1), sky(101, 5, 1))
	add(0, api.ErrClash, sky(100, 5, 1, 5, 1), sky(101, 5, 1, 6, 1))
	add(0, api.ErrClash, sky(100, 5, 1), sky(100, 5, 1, 5, 1))
	add(0, api.ErrClash, sky(100, 5, 1, 5, 1), sky(100, 5, 1))
	add(0, api.ErrClash, sky(100, 5, 1, 5, 1, 5, 1), sky(100, 5, 1, 6, 1))
	add(0, api.ErrClash, sky(100, 5, 1, 5, 1), sky(100, 6, 1, 6, 1))
	add(1, api.ErrClash, sky(100, 5, 1, 5, 1), sky(100, 5, 2, 6, 2))
	add(1, api.ErrClash, sky(100, 5, 1, 5, 1, 5, 1), sky(100, 5, 2, 4, 2, 4, 2))
	other := lastSky()
	other.Slabs[11].Thickness = 499
	add(11, api.ErrClash, lastSky(), other)
	return list
}

// goodShots are valid frequencies and launches near what a sky reflects.
func goodShots(s api.RaySky, seed int) []api.RayShot {
	next := numbers(seed + 700)
	var list []api.RayShot
	for range 12 {
		den := 1 + next(100)
		launch, _ := LaunchOf(den, next(den))
		secant, _ := SecantOf(s, launch)
		list = append(list, api.RayShot{Frequency: 1 + next(3000), Launch: launch})
		for _, f := range []int{secant - next(1+secant), secant, secant + 1} {
			if f >= 1 && f <= 3000 {
				list = append(list, api.RayShot{Frequency: f, Launch: launch})
			}
		}
	}
	return list
}

// ratio returns a fraction for computing by definition.
func ratio(num, den int) *big.Rat { return big.NewRat(int64(num), int64(den)) }

// indexByDefinition returns the index square of a slab for a component w of a field.
func indexByDefinition(square, f, gyro, w int) *big.Rat {
	lost := ratio(100*square, 100*f*f-w*f*gyro)
	return lost.Sub(ratio(1, 1), lost)
}

// apexByDefinition returns the index of the slab that reflects a shot, or the number of slabs.
func apexByDefinition(s api.RaySky, r api.RayShot) int {
	for i, slab := range s.Slabs {
		if indexByDefinition(slab.Square, r.Frequency, 0, 0).Cmp(ratio(r.Launch.Num, r.Launch.Den)) <= 0 {
			return i
		}
	}
	return len(s.Slabs)
}

// isRoot tells whether a range is the root of a fraction from 0 on, rounded down and up.
func isRoot(r api.Range, square *big.Rat) bool {
	above := func(n int) int { return ratio(n*n, 1).Cmp(square) }
	if r.Lo < 0 || above(r.Lo) > 0 || above(r.Lo+1) <= 0 {
		return false
	}
	return r.Hi >= 0 && above(r.Hi) >= 0 && (r.Hi == 0 || above(r.Hi-1) < 0)
}

// isLeg tells whether a range is the leg of a thickness with an index square.
func isLeg(r api.Range, thickness int, index *big.Rat, launch api.Frac) bool {
	sine := ratio(launch.Num, launch.Den)
	square := ratio(100*thickness, 1)
	square.Mul(square, square).Mul(square, sine)
	return isRoot(r, square.Quo(square, new(big.Rat).Sub(index, sine)))
}

// isSame tells whether a fraction is in lowest terms and has a value.
func isSame(f api.Frac, value *big.Rat) bool {
	return value.Num().Cmp(big.NewInt(int64(f.Num))) == 0 && value.Denom().Cmp(big.NewInt(int64(f.Den))) == 0
}

// doubled returns twice the sum of ranges.
func doubled(legs []api.Range) api.Range {
	var sum api.Range
	for _, leg := range legs {
		sum = rangeOf(sum.Lo+2*leg.Lo, sum.Hi+2*leg.Hi)
	}
	return sum
}

// start returns the start of a string that may be long.
func start(s string) string { return s[:min(len(s), 60)] }

// manyTexts returns texts that are near a given one: with a part left out, doubled, or replaced.
func manyTexts(s string) []string {
	var list []string
	for i := range len(s) {
		list = append(list, s[:i]+s[i+1:], s[:i]+s[i:i+1]+s[i:])
		for _, part := range []string{" ", ";", "-", "+", "0", "x", "X", ".", "_", "\n", "\t", "\x00", "\xc3"} {
			list = append(list, s[:i]+part+s[i:], s[:i]+part+s[i+1:])
		}
	}
	for _, part := range []string{" ", "x", "0", "\n", "-", "é"} {
		list = append(list, s+part, strings.Repeat(part, 3))
	}
	return list
}
