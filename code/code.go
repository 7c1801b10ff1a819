// Package code is chapter 1: codes, chirps, frames and compression. See shared/doc/01-code.md.
package code

import (
	"iter"

	"skywave/api"
)

// CheckCode returns the error of a code.
func CheckCode(c []int) api.Errno {
	if e := lengthError(len(c), api.MaxCodeLength); e != api.OK {
		return e
	}
	_, e := firstBad(c, func(_, n int) api.Errno {
		return errorIf(n != 1 && n != -1, api.ErrRange)
	})
	return e
}

// CorrelationAt returns the correlation of two codes of the same length at a lag.
func CorrelationAt(a, b []int, lag int) (int, api.Errno) {
	e := firstError(
		CheckCode(a),
		CheckCode(b),
		errorIf(len(a) != len(b), api.ErrShape),
		errorIf(outside(lag, 1-len(a), len(a)-1), api.ErrRange),
	)
	if e != api.OK {
		return 0, e
	}
	return correlation(a, b, lag), api.OK
}

// SidelobeOf returns the maximum size of a code's correlation with itself beside the lag 0.
func SidelobeOf(c []int) (int, api.Errno) {
	if e := CheckCode(c); e != api.OK {
		return 0, e
	}
	return sidelobe(c), api.OK
}

// FirstBest returns the lexicographically first code of a length with the minimum side lobe, and this side lobe.
func FirstBest(length int) ([]int, int, api.Errno) {
	if outside(length, 1, api.MaxCodeSearch) {
		return nil, 0, api.ErrRange
	}
	var best []int
	lowest := length
	for c := range codesOf(length) {
		if lobe := sidelobe(c); lobe < lowest {
			best, lowest = c, lobe
		}
	}
	return best, lowest, api.OK
}

// WaveOf returns the wave of a code.
func WaveOf(c []int) ([]api.Gauss, api.Errno) {
	if e := CheckCode(c); e != api.OK {
		return nil, e
	}
	wave := make([]api.Gauss, len(c))
	for i, n := range c {
		wave[i] = api.Gauss{Re: n}
	}
	return wave, api.OK
}

func correlation(a, b []int, lag int) int {
	if lag < 0 {
		return correlation(b, a, -lag)
	}
	sum := 0
	for i := range len(a) - lag {
		sum += a[i+lag] * b[i]
	}
	return sum
}

func sidelobe(c []int) int {
	lobe := 0
	for lag := 1; lag < len(c); lag++ {
		n := correlation(c, c, lag)
		lobe = max(lobe, n, -n)
	}
	return lobe
}

// codesOf yields all codes of a length in lexicographic order, each in memory of its own, so that it may be kept.
func codesOf(length int) iter.Seq[[]int] {
	return func(yield func([]int) bool) {
		count := 1 << length
		for bits := range count {
			if !yield(codeOf(bits, length)) {
				return
			}
		}
	}
}

// codeOf reads the highest bit as the first number: the codes of ascending numbers then ascend, too.
func codeOf(bits, length int) []int {
	c := make([]int, length)
	for i := range length {
		c[i] = 2*(bits>>(length-1-i)&1) - 1
	}
	return c
}
