package code

import (
	"slices"

	"skywave/api"
)

// CheckPair returns the error of a complementary pair, with the lag that it concerns.
func CheckPair(p api.CodePair) (int, api.Errno) {
	e := firstError(
		CheckCode(p.A),
		CheckCode(p.B),
		errorIf(len(p.A) != len(p.B), api.ErrShape),
	)
	if e != api.OK {
		return 0, e
	}
	lag := lobeOf(p.A, p.B)
	return lag, errorIf(lag != 0, api.ErrClash)
}

// Doubled returns A followed by B, and A followed by the opposite of B.
func Doubled(p api.CodePair) (api.CodePair, api.Errno) {
	if e := longerError(p); e != api.OK {
		return api.CodePair{}, e
	}
	return api.CodePair{
		A: slices.Concat(p.A, p.B),
		B: slices.Concat(p.A, opposite(p.B)),
	}, api.OK
}

// Interleaved returns the numbers of A and B by turns, and those of A and the opposite of B.
func Interleaved(p api.CodePair) (api.CodePair, api.Errno) {
	if e := longerError(p); e != api.OK {
		return api.CodePair{}, e
	}
	return api.CodePair{
		A: byTurns(p.A, p.B),
		B: byTurns(p.A, opposite(p.B)),
	}, api.OK
}

// PartnersOf returns all codes with which a code is a complementary pair.
func PartnersOf(c []int) ([][]int, api.Errno) {
	e := firstError(CheckCode(c), errorIf(len(c) > api.MaxCodeSearch, api.ErrLarge))
	if e != api.OK {
		return nil, e
	}
	var partners [][]int
	for d := range codesOf(len(c)) {
		if lobeOf(c, d) == 0 {
			partners = append(partners, d)
		}
	}
	return partners, api.OK
}

// lobeOf returns the first lag from 1 on at which the correlations of two codes with themselves do not cancel, 0 if there is none.
func lobeOf(a, b []int) int {
	for lag := 1; lag < len(a); lag++ {
		if correlation(a, a, lag)+correlation(b, b, lag) != 0 {
			return lag
		}
	}
	return 0
}

// longerError returns the error of a pair that is to become twice as long.
func longerError(p api.CodePair) api.Errno {
	_, e := CheckPair(p)
	return firstError(e, errorIf(2*len(p.A) > api.MaxCodeLength, api.ErrLarge))
}

func opposite(c []int) []int {
	o := make([]int, len(c))
	for i, n := range c {
		o[i] = -n
	}
	return o
}

func byTurns(a, b []int) []int {
	c := make([]int, 0, 2*len(a))
	for i := range a {
		c = append(c, a[i], b[i])
	}
	return c
}
