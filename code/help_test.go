package code

import (
	"fmt"
	"math"
	"reflect"
	"testing"

	"skywave/api"
)

// want compares results with those that are expected; nil and empty slices are equal.
func want(t *testing.T, what string, got, expected any) {
	t.Helper()
	if fmt.Sprintf("%v", got) != fmt.Sprintf("%v", expected) {
		t.Errorf("%s: %v, want %v", what, got, expected)
	}
}

// results lists several results of one call.
func results(list ...any) []any { return list }

// refused checks that a call returned an error, and zero values beside it.
func refused(t *testing.T, what string, expected api.Errno, got ...any) {
	t.Helper()
	last := len(got) - 1
	if got[last] != expected {
		t.Errorf("%s: error %v, want %v", what, got[last], expected)
	}
	for _, x := range got[:last] {
		v := reflect.ValueOf(x)
		if !v.IsZero() && !(v.Kind() == reflect.Slice && v.Len() == 0) {
			t.Errorf("%s: %v beside the error %v", what, x, expected)
		}
	}
}

// repeated returns a list of equal items.
func repeated[T any](n int, item T) []T {
	list := make([]T, n)
	for i := range list {
		list[i] = item
	}
	return list
}

// numbers returns a sequence of numbers from -size to size, which looks irregular and is always the same.
func numbers(seed, size int) func() int {
	state := uint32(seed)*2654435761 + 12345
	return func() int {
		state = state*1664525 + 1013904223
		return int(state>>8)%(2*size+1) - size
	}
}

// sampleList returns irregular samples whose parts are at most size in size.
func sampleList(seed, count, size int) []api.Gauss {
	next := numbers(seed, size)
	list := make([]api.Gauss, count)
	for i := range list {
		list[i].Re = next()
		list[i].Im = next()
	}
	return list
}

// everyCode returns all codes of a length, by counting.
func everyCode(length int) [][]int {
	if length == 0 {
		return [][]int{nil}
	}
	var list [][]int
	for _, n := range []int{-1, 1} {
		for _, rest := range everyCode(length - 1) {
			list = append(list, append([]int{n}, rest...))
		}
	}
	return list
}

// correlationByPairs is the definition of a correlation: all products whose indexes differ by the lag.
func correlationByPairs(a, b []int, lag int) int {
	sum := 0
	for i := range a {
		for j := range b {
			if i-j == lag {
				sum += a[i] * b[j]
			}
		}
	}
	return sum
}

func times(a, b api.Gauss) api.Gauss {
	return api.Gauss{Re: a.Re*b.Re - a.Im*b.Im, Im: a.Re*b.Im + a.Im*b.Re}
}

func plus(a, b api.Gauss) api.Gauss {
	return api.Gauss{Re: a.Re + b.Re, Im: a.Im + b.Im}
}

func squareSize(a api.Gauss) int { return a.Re*a.Re + a.Im*a.Im }

// turned returns g times i to the power of n, by single turns.
func turned(g api.Gauss, n int) api.Gauss {
	for range (n%4 + 4) % 4 {
		g = api.Gauss{Re: -g.Im, Im: g.Re}
	}
	return g
}

// extremes are numbers at which arithmetic of words overflows.
var extremes = []int{math.MinInt, math.MinInt + 1, math.MaxInt - 1, math.MaxInt}

func re(n int) api.Gauss { return api.Gauss{Re: n} }
func im(n int) api.Gauss { return api.Gauss{Im: n} }

// lineOf returns a line of which no sample was missing.
func lineOf(values ...api.Gauss) api.CodeLine {
	return api.CodeLine{Values: values, Missing: make([]int, len(values))}
}
