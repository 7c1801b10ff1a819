package code

import (
	"slices"
	"testing"

	"skywave/api"
)

var shortPair = api.CodePair{A: []int{1, 1}, B: []int{1, -1}}

// badPairs are pairs that are refused, with the lag and the error; each has every error that follows, as far as it can.
var badPairs = []struct {
	a, b []int
	lag  int
	e    api.Errno
}{
	{nil, []int{0}, 0, api.ErrShape},
	{[]int{0}, nil, 0, api.ErrRange},
	{[]int{1}, nil, 0, api.ErrShape},
	{[]int{1}, []int{1, 5}, 0, api.ErrRange},
	{repeated(33, 1), []int{1, 5}, 0, api.ErrLarge},
	{[]int{1}, repeated(33, 1), 0, api.ErrLarge},
	{[]int{1, 1, 1}, []int{1, 1}, 0, api.ErrShape},
	{[]int{1, 1}, []int{1, 1}, 1, api.ErrClash},
	{[]int{1, 1, 1}, []int{1, -1, 1}, 2, api.ErrClash},
	{[]int{1, 1, 1, 1}, []int{1, -1, 1, -1}, 2, api.ErrClash},
	{[]int{1, 1, 1, -1}, []int{1, -1, 1, -1}, 1, api.ErrClash},
	{repeated(17, 1), repeated(17, 1), 1, api.ErrClash},
}

// P1.2

func TestCheckPair(t *testing.T) {
	lag, e := CheckPair(shortPair)
	want(t, "CheckPair", results(lag, e), results(0, api.OK))
	lag, e = CheckPair(api.CodePair{A: []int{-1}, B: []int{1}})
	want(t, "CheckPair of single numbers", results(lag, e), results(0, api.OK))
	for _, x := range badPairs {
		lag, e := CheckPair(api.CodePair{A: x.a, B: x.b})
		want(t, "CheckPair", results(lag, e), results(x.lag, x.e))
	}
}

func TestCheckPairOfAll(t *testing.T) {
	for length := 1; length <= 5; length++ {
		for _, a := range everyCode(length) {
			for _, b := range everyCode(length) {
				first := 0
				for lag := length - 1; lag > 0; lag-- {
					if correlationByPairs(a, a, lag)+correlationByPairs(b, b, lag) != 0 {
						first = lag
					}
				}
				lag, e := CheckPair(api.CodePair{A: a, B: b})
				want(t, "CheckPair", results(lag, e == api.OK, e == api.ErrClash), results(first, first == 0, first != 0))
			}
		}
	}
}

func TestDoubledAndInterleaved(t *testing.T) {
	p, e := Doubled(shortPair)
	want(t, "Doubled", results(p, e), results(api.CodePair{A: []int{1, 1, 1, -1}, B: []int{1, 1, -1, 1}}, api.OK))
	p, e = Interleaved(shortPair)
	want(t, "Interleaved", results(p, e), results(api.CodePair{A: []int{1, 1, 1, -1}, B: []int{1, -1, 1, 1}}, api.OK))
	p, e = Interleaved(p)
	want(t, "Interleaved twice", results(p, e), results(api.CodePair{
		A: []int{1, 1, 1, -1, 1, 1, -1, 1},
		B: []int{1, -1, 1, 1, 1, -1, -1, -1},
	}, api.OK))
	p, e = Doubled(api.CodePair{A: []int{-1}, B: []int{1}})
	want(t, "Doubled single numbers", results(p, e), results(api.CodePair{A: []int{-1, 1}, B: []int{-1, -1}}, api.OK))
}

func TestDoubledAndInterleavedErrors(t *testing.T) {
	for _, x := range badPairs {
		p, e := Doubled(api.CodePair{A: x.a, B: x.b})
		refused(t, "Doubled", x.e, p, e)
		p, e = Interleaved(api.CodePair{A: x.a, B: x.b})
		refused(t, "Interleaved", x.e, p, e)
	}
	long := shortPair
	for len(long.A) < 16 {
		long, _ = Doubled(long)
	}
	longest, e := Interleaved(long)
	want(t, "Interleaved to 32", results(len(longest.A), len(longest.B), e), results(32, 32, api.OK))
	longest, e = Doubled(long)
	want(t, "Doubled to 32", results(len(longest.A), len(longest.B), e), results(32, 32, api.OK))
	p, e := Doubled(longest)
	refused(t, "Doubled to 64", api.ErrLarge, p, e)
	p, e = Interleaved(longest)
	refused(t, "Interleaved to 64", api.ErrLarge, p, e)
	// no pair has a length from 17 to 19, but one of 20 does: it is too long to be doubled, too
	twenty := api.CodePair{
		A: []int{1, 1, 1, 1, -1, 1, -1, -1, -1, 1, 1, -1, -1, 1, 1, -1, 1, -1, -1, 1},
		B: []int{1, 1, 1, 1, -1, 1, 1, 1, 1, 1, -1, -1, -1, 1, -1, 1, -1, 1, 1, -1},
	}
	if _, e := CheckPair(twenty); e == api.OK {
		p, e = Doubled(twenty)
		refused(t, "Doubled to 40", api.ErrLarge, p, e)
		p, e = Interleaved(twenty)
		refused(t, "Interleaved to 40", api.ErrLarge, p, e)
	} else {
		t.Error("the pair of 20 numbers is none")
	}
}

func TestPartnersOf(t *testing.T) {
	l, e := PartnersOf([]int{1, 1})
	want(t, "PartnersOf 1, 1", results(l, e), results([][]int{{-1, 1}, {1, -1}}, api.OK))
	l, e = PartnersOf([]int{-1})
	want(t, "PartnersOf one number", results(l, e), results([][]int{{-1}, {1}}, api.OK))
	for _, c := range everyCode(3) {
		l, e := PartnersOf(c)
		want(t, "PartnersOf three numbers", results(len(l), e), results(0, api.OK))
	}
	for _, c := range [][]int{{1, 1, 1, -1}, {1, 1, 1, 1}, {-1, 1, -1, -1, -1, -1, 1, -1}, {1, 1, -1, 1, -1, 1, -1, -1, 1, 1}} {
		var partners [][]int
		for _, d := range everyCode(len(c)) {
			if lag, _ := CheckPair(api.CodePair{A: c, B: d}); lag == 0 {
				partners = append(partners, d)
			}
		}
		l, e := PartnersOf(c)
		want(t, "PartnersOf", results(l, e), results(partners, api.OK))
	}
}

func TestPartnersOfErrors(t *testing.T) {
	l, e := PartnersOf(nil)
	refused(t, "PartnersOf nothing", api.ErrShape, l, e)
	l, e = PartnersOf(repeated(33, 0))
	refused(t, "PartnersOf a long code", api.ErrLarge, l, e)
	l, e = PartnersOf(repeated(11, 0))
	refused(t, "PartnersOf a bad code", api.ErrRange, l, e)
	l, e = PartnersOf(repeated(11, 1))
	refused(t, "PartnersOf eleven numbers", api.ErrLarge, l, e)
	_, e = PartnersOf(repeated(10, 1))
	want(t, "PartnersOf ten numbers", e, api.OK)
}

// pairsToTry returns complementary pairs of several lengths, made in both ways.
func pairsToTry(t *testing.T) []api.CodePair {
	list := []api.CodePair{{A: []int{1}, B: []int{1}}, {A: []int{-1}, B: []int{1}}}
	for _, length := range []int{2, 4, 8, 10} {
		for _, a := range everyCode(length) {
			partners, e := PartnersOf(a)
			if len(partners) > 0 {
				list = append(list, api.CodePair{A: a, B: partners[0]})
			}
			want(t, "PartnersOf", e, api.OK)
		}
	}
	return list
}

// P1.8

func isComplementary(p api.CodePair) bool {
	for lag := range p.A {
		n, e := CorrelationAt(p.A, p.A, lag)
		m, f := CorrelationAt(p.B, p.B, lag)
		if e != api.OK || f != api.OK || lag > 0 && n+m != 0 || lag == 0 && n+m != 2*len(p.A) {
			return false
		}
	}
	lag, e := CheckPair(p)
	return lag == 0 && e == api.OK
}

func TestNoSideLobe(t *testing.T) {
	pairs := pairsToTry(t)
	want(t, "there are enough pairs", len(pairs) > 50, true)
	for _, p := range pairs {
		doubled, e := Doubled(p)
		interleaved, f := Interleaved(p)
		want(t, "errors", results(e, f), results(api.OK, api.OK))
		reversed := slices.Clone(p.A)
		slices.Reverse(reversed)
		for i, q := range []api.CodePair{
			p, doubled, interleaved,
			{A: p.B, B: p.A},
			{A: reversed, B: p.B},
			{A: opposite(p.A), B: p.B},
			{A: p.A, B: opposite(p.B)},
		} {
			if !isComplementary(q) {
				t.Errorf("the pair %v from %v in way %d has side lobes", q, p, i)
			}
		}
	}
}
