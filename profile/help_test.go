package profile

import (
	"fmt"
	"math"
	"reflect"
	"strings"
	"testing"

	"skywave/api"
)

// want compares results with those that are expected; nil and empty slices are equal.
func want(t *testing.T, what string, got, expected any) {
	t.Helper()
	if fmt.Sprintf("%v", got) != fmt.Sprintf("%v", expected) {
		t.Errorf("%s: %v, want %v", what, got, expected)
	}
}

// results lists several results of one call.
func results(list ...any) []any { return list }

// refused checks that a call returned an error, and zero values beside it.
func refused(t *testing.T, what string, expected api.Errno, got ...any) {
	t.Helper()
	last := len(got) - 1
	if got[last] != expected {
		t.Errorf("%s: error %v, want %v", what, got[last], expected)
	}
	for _, x := range got[:last] {
		v := reflect.ValueOf(x)
		if !v.IsZero() && !(v.Kind() == reflect.Slice && v.Len() == 0) {
			t.Errorf("%s: %v beside the error %v", what, x, expected)
		}
	}
}

// repeated returns a list of equal items.
func repeated[T any](n int, item T) []T {
	list := make([]T, n)
	for i := range list {
		list[i] = item
	}
	return list
}

// numbers returns a sequence of numbers from 0 to size - 1, which looks irregular and is always the same.
func numbers(seed int) func(size int) int {
	state := uint32(seed)*2654435761 + 12345
	return func(size int) int {
		state = state*1664525 + 1013904223
		return int(state>>8) % size
	}
}

// outsideOf returns numbers that are not from least to most, among them some at which arithmetic of words overflows.
func outsideOf(least, most int) []int {
	return []int{least - 1, most + 1, math.MinInt, math.MinInt + 1, math.MaxInt - 1, math.MaxInt, 1 << 32, 1<<32 + 300, -300}
}

// spoil overwrites a list as far as its memory reaches.
func spoil[T any](list []T, item T) {
	list = list[:cap(list)]
	for i := range list {
		list[i] = item
	}
}

func rangeOf(lo, hi int) api.Range { return api.Range{Lo: lo, Hi: hi} }

// sky returns a profile by its base, and the squares and thicknesses of its slabs.
func sky(base int, slabs ...int) api.ProfileSky {
	p := api.ProfileSky{Base: base}
	for i := 0; i < len(slabs); i += 2 {
		p.Slabs = append(p.Slabs, api.ProfileSlab{Square: slabs[i], Thickness: slabs[i+1]})
	}
	return p
}

// traced returns a trace without a valley by the frequencies and the ends of the pixels of its points.
func traced(points ...int) api.ProfileTrace {
	var t api.ProfileTrace
	for i := 0; i < len(points); i += 3 {
		t.Points = append(t.Points, api.ProfilePoint{Frequency: points[i], Pixel: rangeOf(points[i+1], points[i+2])})
	}
	return t
}

func withValley(t api.ProfileTrace, after, width int) api.ProfileTrace {
	t.After, t.Width = after, width
	return t
}

// exampleSky is the profile p of the chapter's examples.
func exampleSky() api.ProfileSky { return sky(100, 90000, 20, 250000, 10) }

// exampleTrace is the trace of the chapter's fourth example.
func exampleTrace() api.ProfileTrace { return traced(300, 99, 101, 500, 124, 126) }

// lastSky returns a profile with as many slabs as there may be, the highest of all.
func lastSky() api.ProfileSky { return sky(500, repeated(24, 500)...) }

// lastTrace returns a trace with as many points as there may be, and the ends of all ranges.
func lastTrace() api.ProfileTrace {
	return traced(1, 0, 20000, 2, 0, 0, 3, 20000, 20000, 4, 0, 20000, 5, 1, 1, 2998, 0, 20000, 2999, 0, 20000, 3000, 20000, 20000)
}

// irregularSky returns a valid profile with so few different squares and thicknesses that neighbours are often equal, or 0.
func irregularSky(seed int) api.ProfileSky {
	next := numbers(seed)
	p := sky(next(501))
	if seed%2 == 0 {
		p.Base = next(30)
	}
	for range 1 + next(12) {
		slab := api.ProfileSlab{Square: next(4) * 10000, Thickness: next(4) * 5}
		if next(4) == 0 {
			slab = api.ProfileSlab{Square: next(200000), Thickness: next(501)}
		}
		p.Slabs = append(p.Slabs, slab)
	}
	return p
}

// risingFrequencies returns ascending frequencies.
func risingFrequencies(seed, count int) []int {
	next := numbers(seed)
	list := []int{1 + next(400)}
	for len(list) < count {
		list = append(list, list[len(list)-1]+1+next(1+seed%360))
	}
	return list
}

// risingSky returns a profile of which the squares are those of ascending frequencies, and these frequencies.
func risingSky(seed int) (api.ProfileSky, []int) {
	next := numbers(seed + 5000)
	frequencies := risingFrequencies(seed, 1+next(8))
	p := sky(next(501))
	for _, f := range frequencies {
		p.Slabs = append(p.Slabs, api.ProfileSlab{Square: f * f, Thickness: next(1 + next(60))})
	}
	return p, frequencies
}

// irregularTrace returns a valid trace, which often contradicts itself.
func irregularTrace(seed int) api.ProfileTrace {
	next := numbers(seed + 9000)
	frequencies := risingFrequencies(seed, 1+next(8))
	var t api.ProfileTrace
	lo := next(600)
	for _, f := range frequencies {
		t.Points = append(t.Points, api.ProfilePoint{Frequency: f, Pixel: rangeOf(lo, lo+next(20))})
		lo = max(0, lo+next(130)-10-10*(seed%5))
	}
	if seed%2 == 0 {
		t.After, t.Width = next(len(frequencies)), next(40)
	}
	return t
}

// refusedSky is a profile, and the slab and the error with which it is refused.
type refusedSky struct {
	p    api.ProfileSky
	slab int
	e    api.Errno
}

// badSkies are profiles that are refused.
func badSkies() []refusedSky {
	var list []refusedSky
	add := func(slab int, e api.Errno, p api.ProfileSky) { list = append(list, refusedSky{p, slab, e}) }
	for _, n := range outsideOf(0, 500) {
		add(0, api.ErrRange, sky(n, 90000, 20, 250000, 10))
		add(0, api.ErrRange, sky(n))
		add(0, api.ErrRange, sky(n, repeated(26, 1)...))
		for slab := range 12 {
			p := lastSky()
			p.Slabs[slab].Thickness = n
			add(slab, api.ErrRange, p)
		}
		add(0, api.ErrRange, sky(100, 90000, n, -1, 10))
	}
	for _, n := range outsideOf(0, 9000000) {
		for slab := range 12 {
			p := lastSky()
			p.Slabs[slab].Square = n
			add(slab, api.ErrRange, p)
		}
		add(1, api.ErrRange, sky(100, 90000, 20, n, 10, n, 10))
	}
	add(0, api.ErrShape, sky(0))
	add(0, api.ErrShape, api.ProfileSky{Base: 500, Slabs: []api.ProfileSlab{}})
	add(0, api.ErrLarge, sky(0, repeated(26, 1)...))
	add(0, api.ErrLarge, sky(0, repeated(26, -1)...))
	add(0, api.ErrLarge, sky(500, repeated(2000, 0)...))
	return list
}

// refusedTrace is a trace, and the point and the error with which it is refused.
type refusedTrace struct {
	t     api.ProfileTrace
	point int
	e     api.Errno
}

// badTraces are traces that are refused.
func badTraces() []refusedTrace {
	var list []refusedTrace
	add := func(point int, e api.Errno, change func(t *api.ProfileTrace)) {
		t := lastTrace()
		change(&t)
		list = append(list, refusedTrace{t, point, e})
	}
	nine := func(t *api.ProfileTrace) { t.Points = append(t.Points, api.ProfilePoint{Frequency: 3001}) }
	add(0, api.ErrShape, func(t *api.ProfileTrace) { t.Points = nil })
	add(0, api.ErrLarge, nine)
	add(0, api.ErrLarge, func(t *api.ProfileTrace) { t.Points = make([]api.ProfilePoint, 9) })
	for _, n := range outsideOf(0, 500) {
		add(0, api.ErrShape, func(t *api.ProfileTrace) { t.Points, t.Width = nil, n })
		add(0, api.ErrLarge, func(t *api.ProfileTrace) { nine(t); t.Width = n })
		add(0, api.ErrRange, func(t *api.ProfileTrace) { t.Width = n })
		add(0, api.ErrRange, func(t *api.ProfileTrace) { t.Width, t.After = n, 8 })
		add(0, api.ErrRange, func(t *api.ProfileTrace) { t.Width, t.Points[0].Pixel = n, rangeOf(2, 1) })
	}
	for _, n := range outsideOf(0, 7) {
		add(0, api.ErrShape, func(t *api.ProfileTrace) { t.Points, t.After = nil, n })
		add(0, api.ErrLarge, func(t *api.ProfileTrace) { nine(t); t.After = n })
		add(0, api.ErrMissing, func(t *api.ProfileTrace) { t.After = n })
		add(0, api.ErrMissing, func(t *api.ProfileTrace) { t.After, t.Points[0].Frequency = n, 0 })
	}
	add(0, api.ErrMissing, func(t *api.ProfileTrace) { t.Points, t.After = t.Points[:1], 1 })
	for i := range 8 {
		for _, n := range outsideOf(1, 3000) {
			add(i, api.ErrRange, func(t *api.ProfileTrace) { t.Points[i].Frequency = n })
			add(i, api.ErrRange, func(t *api.ProfileTrace) { t.Points[i] = api.ProfilePoint{Frequency: n, Pixel: rangeOf(2, 1)} })
		}
		for _, n := range outsideOf(0, 20000) {
			add(i, api.ErrRange, func(t *api.ProfileTrace) { t.Points[i].Pixel.Lo = n })
			add(i, api.ErrRange, func(t *api.ProfileTrace) { t.Points[i].Pixel.Hi = n })
			add(i, api.ErrRange, func(t *api.ProfileTrace) { t.Points[i] = api.ProfilePoint{Frequency: 1, Pixel: rangeOf(20000, n)} })
		}
		add(i, api.ErrOrder, func(t *api.ProfileTrace) { t.Points[i].Pixel = rangeOf(20000, 19999) })
		add(i, api.ErrOrder, func(t *api.ProfileTrace) { t.Points[i].Pixel = rangeOf(1, 0) })
	}
	for i := range 7 {
		add(i+1, api.ErrOrder, func(t *api.ProfileTrace) { t.Points[i+1].Frequency = t.Points[i].Frequency })
		add(i+1, api.ErrOrder, func(t *api.ProfileTrace) { t.Points[i].Frequency, t.Points[i+1].Frequency = 2999, 2998 })
	}
	add(1, api.ErrOrder, func(t *api.ProfileTrace) { t.Points[1].Pixel.Lo, t.Points[2].Frequency = 1, 0 })
	add(1, api.ErrRange, func(t *api.ProfileTrace) { t.Points[1].Pixel.Lo, t.Points[2].Pixel.Lo = -1, 1 })
	return list
}

// start returns the start of a string that may be long.
func start(s string) string { return s[:min(len(s), 60)] }

// manyTexts returns texts that are near a given one: with a part left out, doubled, or replaced.
func manyTexts(s string) []string {
	var list []string
	for i := range len(s) {
		list = append(list, s[:i]+s[i+1:], s[:i]+s[i:i+1]+s[i:])
		for _, part := range []string{" ", ";", "-", "+", "0", "x", ".", ",", "\n", "\t", "\x00", "\xc3"} {
			list = append(list, s[:i]+part+s[i:], s[:i]+part+s[i+1:])
		}
	}
	for _, part := range []string{" ", ";", "0", "\n", "-", "é"} {
		list = append(list, s+part, strings.Repeat(part, 3))
	}
	return list
}
