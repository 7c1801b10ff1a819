package echo

import (
	"fmt"
	"math"
	"reflect"
	"testing"

	"skywave/api"
)

// want compares results with those that are expected; nil and empty slices are equal.
func want(t *testing.T, what string, got, expected any) {
	t.Helper()
	if fmt.Sprintf("%v", got) != fmt.Sprintf("%v", expected) {
		t.Errorf("%s: %v, want %v", what, got, expected)
	}
}

// results lists several results of one call.
func results(list ...any) []any { return list }

// refused checks that a call returned an error, and zero values beside it.
func refused(t *testing.T, what string, expected api.Errno, got ...any) {
	t.Helper()
	last := len(got) - 1
	if got[last] != expected {
		t.Errorf("%s: error %v, want %v", what, got[last], expected)
	}
	for _, x := range got[:last] {
		v := reflect.ValueOf(x)
		if !v.IsZero() && !(v.Kind() == reflect.Slice && v.Len() == 0) {
			t.Errorf("%s: %v beside the error %v", what, x, expected)
		}
	}
}

// repeated returns a list of equal items.
func repeated[T any](n int, item T) []T {
	list := make([]T, n)
	for i := range list {
		list[i] = item
	}
	return list
}

// numbers returns a sequence of numbers from -size to size, which looks irregular and is always the same.
func numbers(seed, size int) func() int {
	state := uint32(seed)*2654435761 + 12345
	return func() int {
		state = state*1664525 + 1013904223
		return int(state>>8)%(2*size+1) - size
	}
}

// sampleList returns irregular samples whose parts are at most size in size.
func sampleList(seed, count, size int) []api.Gauss {
	next := numbers(seed, size)
	list := make([]api.Gauss, count)
	for i := range list {
		list[i].Re = next()
		list[i].Im = next()
	}
	return list
}

func re(n int) api.Gauss { return api.Gauss{Re: n} }
func im(n int) api.Gauss { return api.Gauss{Im: n} }

func times(a, b api.Gauss) api.Gauss {
	return api.Gauss{Re: a.Re*b.Re - a.Im*b.Im, Im: a.Re*b.Im + a.Im*b.Re}
}

func plus(a, b api.Gauss) api.Gauss {
	return api.Gauss{Re: a.Re + b.Re, Im: a.Im + b.Im}
}

// quartered returns g times i to the power of n, by single turns.
func quartered(g api.Gauss, n int) api.Gauss {
	for range (n%4 + 4) % 4 {
		g = api.Gauss{Re: -g.Im, Im: g.Re}
	}
	return g
}

// extremes are numbers at which arithmetic of words overflows.
var extremes = []int{math.MinInt, math.MinInt + 1, math.MaxInt - 1, math.MaxInt}

// beyondLimit returns numbers that are refused because of a limit of both parts, each part alone.
func beyondLimit(limit int) []api.Gauss {
	var list []api.Gauss
	for _, n := range append([]int{limit + 1, -limit - 1}, extremes...) {
		list = append(list, re(n), im(n), api.Gauss{Re: 1, Im: n}, api.Gauss{Re: n, Im: 1})
	}
	return list
}

// outsideOf returns numbers that are not from least to most.
func outsideOf(least, most int) []int {
	return append([]int{least - 1, most + 1}, extremes...)
}

// refusedSamples are samples, and the error with which they are refused.
type refusedSamples struct {
	x []api.Gauss
	e api.Errno
}

// badSamples are samples that are refused, each list with its error.
func badSamples() []refusedSamples {
	list := []refusedSamples{
		{repeated(65, re(1)), api.ErrLarge},
		{repeated(65, re(10001)), api.ErrLarge},
	}
	for _, g := range beyondLimit(api.MaxEchoSample) {
		list = append(list, refusedSamples{[]api.Gauss{g, {}}, api.ErrRange}, refusedSamples{[]api.Gauss{{}, g}, api.ErrRange})
	}
	return list
}
