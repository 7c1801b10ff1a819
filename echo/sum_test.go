package echo

import (
	"slices"
	"testing"

	"skywave/api"
)

// irregularFrames returns frames of the same length, and their turns.
func irregularFrames(seed, frames, count int) ([][]api.Gauss, []int) {
	next := numbers(seed, 100)
	var l [][]api.Gauss
	var turns []int
	for j := range frames {
		l = append(l, sampleList(seed*8+j, count, 10000))
		turns = append(turns, (next()+100)%4)
	}
	return l, turns
}

// P2.6

func TestCoherentSum(t *testing.T) {
	g := api.Gauss{Re: 2, Im: 5}
	for _, x := range []struct {
		l     [][]api.Gauss
		turns []int
		sum   []api.Gauss
	}{
		{[][]api.Gauss{{re(1), re(2)}, {im(1), im(2)}}, []int{0, 3}, []api.Gauss{re(2), re(4)}},
		{[][]api.Gauss{{g}}, []int{0}, []api.Gauss{g}},
		{[][]api.Gauss{{g}}, []int{1}, []api.Gauss{{Re: -5, Im: 2}}},
		{[][]api.Gauss{{g}}, []int{2}, []api.Gauss{{Re: -2, Im: -5}}},
		{[][]api.Gauss{{g}}, []int{3}, []api.Gauss{{Re: 5, Im: -2}}},
		{[][]api.Gauss{nil, {}}, []int{1, 2}, nil},
		{repeated(8, repeated(64, api.Gauss{Re: -10000, Im: 10000})), make([]int, 8), repeated(64, api.Gauss{Re: -80000, Im: 80000})},
	} {
		sum, e := CoherentSum(x.l, x.turns)
		want(t, "CoherentSum", results(sum, e), results(x.sum, api.OK))
	}
}

func TestCoherentSumByDefinition(t *testing.T) {
	for seed := range 64 {
		l, turns := irregularFrames(seed, 1+seed%8, 1+seed)
		expected := make([]api.Gauss, 1+seed)
		for k := range expected {
			for j := range l {
				expected[k] = plus(expected[k], quartered(l[j][k], turns[j]))
			}
		}
		sum, e := CoherentSum(l, turns)
		want(t, "CoherentSum", results(sum, e), results(expected, api.OK))
	}
}

func TestCoherentSumErrors(t *testing.T) {
	one, two := []api.Gauss{re(1)}, []api.Gauss{re(1), re(2)}
	for _, x := range []struct {
		l     [][]api.Gauss
		turns []int
		e     api.Errno
	}{
		{nil, nil, api.ErrShape},
		{nil, []int{0}, api.ErrShape},
		{[][]api.Gauss{one}, nil, api.ErrShape},
		{[][]api.Gauss{one}, []int{0, 0}, api.ErrShape},
		{repeated(9, one), make([]int, 8), api.ErrShape},
		{repeated(9, one), make([]int, 9), api.ErrLarge},
		{append(repeated(8, two), one), []int{-1, 8: 0}, api.ErrLarge},
		{[][]api.Gauss{two, one}, []int{0, 4}, api.ErrShape},
		{[][]api.Gauss{one, two}, []int{0, 4}, api.ErrShape},
		{[][]api.Gauss{one, {re(10001), {}}}, []int{0, 4}, api.ErrShape},
		{[][]api.Gauss{one, repeated(65, re(1))}, []int{0, 0}, api.ErrShape},
		{[][]api.Gauss{one, nil}, []int{0, 0}, api.ErrShape},
		{[][]api.Gauss{nil, one}, []int{0, 0}, api.ErrShape},
		{[][]api.Gauss{one, two}, []int{4, 0}, api.ErrRange},
		{[][]api.Gauss{{re(10001)}, two}, []int{0, 0}, api.ErrRange},
		{[][]api.Gauss{repeated(65, re(1)), one}, []int{4, 0}, api.ErrLarge},
	} {
		sum, e := CoherentSum(x.l, x.turns)
		refused(t, "CoherentSum", x.e, sum, e)
	}
	for _, x := range badSamples() {
		sum, e := CoherentSum([][]api.Gauss{x.x}, []int{4})
		refused(t, "CoherentSum of bad samples", x.e, sum, e)
		if x.e == api.ErrRange {
			sum, e = CoherentSum([][]api.Gauss{make([]api.Gauss, len(x.x)), x.x}, []int{0, 0})
			refused(t, "CoherentSum of a bad second frame", x.e, sum, e)
		}
	}
	for _, n := range outsideOf(0, 3) {
		sum, e := CoherentSum([][]api.Gauss{one, one}, []int{0, n})
		refused(t, "CoherentSum with a bad turn", api.ErrRange, sum, e)
		sum, e = CoherentSum([][]api.Gauss{one, one}, []int{n, 0})
		refused(t, "CoherentSum with a bad first turn", api.ErrRange, sum, e)
	}
}

// P2.13

func TestOrderOfFramesDoesNotMatter(t *testing.T) {
	for seed := range 16 {
		l, turns := irregularFrames(seed, 1+seed%8, 9)
		sum, e := CoherentSum(l, turns)
		for range l {
			l, turns = append(l[1:], l[0]), append(turns[1:], turns[0])
			other, otherError := CoherentSum(l, turns)
			want(t, "CoherentSum in another order", results(other, otherError), results(sum, e))
		}
		slices.Reverse(l)
		slices.Reverse(turns)
		other, otherError := CoherentSum(l, turns)
		want(t, "CoherentSum in the opposite order", results(other, otherError), results(sum, e))
	}
}

func TestLinesOfCoherentSum(t *testing.T) {
	for seed := range 64 {
		var l [][]api.Gauss
		var expected [4]api.Gauss
		for j := range 1 + seed%8 {
			x := sampleList(seed*8+j, 1+seed, 1250)
			l = append(l, x)
			h, e := LinesOf(x)
			want(t, "error of LinesOf", e, api.OK)
			for n := range h {
				expected[n] = plus(expected[n], h[n])
			}
		}
		sum, e := CoherentSum(l, make([]int, len(l)))
		want(t, "error of CoherentSum", e, api.OK)
		h, e := LinesOf(sum)
		want(t, "LinesOf CoherentSum", results(h, e), results(expected, api.OK))
	}
}
