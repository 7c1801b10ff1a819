package code

import (
	"testing"

	"skywave/api"
)

// P1.1

func TestCheckCode(t *testing.T) {
	for _, x := range []struct {
		c []int
		e api.Errno
	}{
		{nil, api.ErrShape},
		{[]int{}, api.ErrShape},
		{[]int{1}, api.OK},
		{[]int{-1}, api.OK},
		{repeated(32, -1), api.OK},
		{repeated(33, 1), api.ErrLarge},
		{repeated(33, 0), api.ErrLarge},
		{[]int{0}, api.ErrRange},
		{[]int{1, -1, 2}, api.ErrRange},
		{[]int{-2, 1}, api.ErrRange},
		{extremes, api.ErrRange},
	} {
		want(t, "CheckCode", CheckCode(x.c), x.e)
	}
}

func TestCorrelationAt(t *testing.T) {
	a, b := []int{1, 1, -1, 1, 1}, []int{1, -1, -1, -1, 1}
	for lag := -4; lag <= 4; lag++ {
		n, e := CorrelationAt(a, b, lag)
		want(t, "CorrelationAt", results(n, e), results(correlationByPairs(a, b, lag), api.OK))
	}
	n, e := CorrelationAt([]int{1, 1}, []int{1, -1}, 1)
	want(t, "CorrelationAt 1", results(n, e), results(1, api.OK))
	n, e = CorrelationAt([]int{1, 1}, []int{1, -1}, -1)
	want(t, "CorrelationAt -1", results(n, e), results(-1, api.OK))
	n, e = CorrelationAt([]int{1, -1}, []int{1, -1}, 1)
	want(t, "CorrelationAt of a code and itself", results(n, e), results(-1, api.OK))
	n, e = CorrelationAt([]int{-1}, []int{1}, 0)
	want(t, "CorrelationAt of single numbers", results(n, e), results(-1, api.OK))
}

func TestCorrelationAtErrors(t *testing.T) {
	for _, x := range []struct {
		a, b []int
		lag  int
		e    api.Errno
	}{
		{nil, []int{0}, 9, api.ErrShape},
		{[]int{0}, nil, 9, api.ErrRange},
		{repeated(33, 1), []int{0}, 0, api.ErrLarge},
		{[]int{1}, repeated(33, 1), 9, api.ErrLarge},
		{[]int{1}, []int{0}, 9, api.ErrRange},
		{[]int{1}, []int{1, 1}, 9, api.ErrShape},
		{[]int{1, 1}, []int{1}, 0, api.ErrShape},
		{[]int{1, 1}, []int{1, 1}, 2, api.ErrRange},
		{[]int{1, 1}, []int{1, 1}, -2, api.ErrRange},
		{[]int{1}, []int{1}, 1, api.ErrRange},
		{[]int{1}, []int{1}, -1, api.ErrRange},
	} {
		n, e := CorrelationAt(x.a, x.b, x.lag)
		refused(t, "CorrelationAt", x.e, n, e)
	}
	for _, lag := range extremes {
		n, e := CorrelationAt([]int{1, 1}, []int{1, 1}, lag)
		refused(t, "CorrelationAt an extreme lag", api.ErrRange, n, e)
	}
}

func TestSidelobeOf(t *testing.T) {
	barker := []int{1, 1, 1, 1, 1, -1, -1, 1, 1, -1, 1, -1, 1}
	for _, x := range []struct {
		c    []int
		lobe int
	}{
		{[]int{1}, 0},
		{[]int{-1}, 0},
		{[]int{1, -1}, 1},
		{[]int{1, -1, 1}, 2},
		{[]int{1, 1, 1, 1}, 3},
		{[]int{1, 1, -1, 1}, 1},
		{barker, 1},
		{repeated(32, -1), 31},
	} {
		n, e := SidelobeOf(x.c)
		want(t, "SidelobeOf", results(n, e), results(x.lobe, api.OK))
	}
	n, e := SidelobeOf(nil)
	refused(t, "SidelobeOf nothing", api.ErrShape, n, e)
	n, e = SidelobeOf(repeated(33, 0))
	refused(t, "SidelobeOf a long code", api.ErrLarge, n, e)
	n, e = SidelobeOf([]int{1, 1, 0})
	refused(t, "SidelobeOf a bad code", api.ErrRange, n, e)
}

func TestFirstBest(t *testing.T) {
	c, n, e := FirstBest(3)
	want(t, "FirstBest 3", results(c, n, e), results([]int{-1, -1, 1}, 1, api.OK))
	c, n, e = FirstBest(1)
	want(t, "FirstBest 1", results(c, n, e), results([]int{-1}, 0, api.OK))
	for length := 1; length <= 10; length++ {
		var best []int
		lowest := length
		for _, c := range everyCode(length) {
			lobe := 0
			for lag := 1; lag < length; lag++ {
				lobe = max(lobe, correlationByPairs(c, c, lag), -correlationByPairs(c, c, lag))
			}
			if lobe < lowest {
				best, lowest = c, lobe
			}
		}
		c, n, e := FirstBest(length)
		want(t, "FirstBest", results(c, n, e), results(best, lowest, api.OK))
	}
	for _, length := range append([]int{0, -1, 11}, extremes...) {
		c, n, e := FirstBest(length)
		refused(t, "FirstBest", api.ErrRange, c, n, e)
	}
}

func TestWaveOf(t *testing.T) {
	w, e := WaveOf([]int{1, -1, -1})
	want(t, "WaveOf", results(w, e), results([]api.Gauss{re(1), re(-1), re(-1)}, api.OK))
	w, e = WaveOf(nil)
	refused(t, "WaveOf nothing", api.ErrShape, w, e)
	w, e = WaveOf(repeated(33, 0))
	refused(t, "WaveOf a long code", api.ErrLarge, w, e)
	w, e = WaveOf([]int{1, 3})
	refused(t, "WaveOf a bad code", api.ErrRange, w, e)
}
