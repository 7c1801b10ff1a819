package code

import (
	"math"
	"testing"

	"skywave/api"
)

// gapFrame has every kind of sample: usable ones, saturated ones, missing ones, and a rest after its blocks.
var gapFrame = api.CodeFrame{
	Gain: 1, Limit: 9,
	Samples: []api.Gauss{
		{Re: 1, Im: -2}, {Re: 3}, {Im: 8}, {Re: -8, Im: 8},
		{Re: 4, Im: 4}, {Re: 9}, {Re: 1}, {Im: 2},
		{Re: 5, Im: -1}, {Re: 2, Im: 2}, {Re: -7}, {Re: 1, Im: 1},
		{Re: -3, Im: 4}, {Im: 6}, {Re: 2}, {Re: -9, Im: -9},
		{Re: 6}, {Im: -9}, {Re: 5},
	},
	Gaps: []int{9, 15, 16},
}

// badFrames are frames that are refused, with the index and the error; each has errors that follow, too.
var badFrames = []struct {
	f api.CodeFrame
	i int
	e api.Errno
}{
	{api.CodeFrame{Gain: 9, Limit: 9}, 0, api.ErrRange},
	{api.CodeFrame{Gain: -9, Limit: 9}, 0, api.ErrRange},
	{api.CodeFrame{Gain: math.MinInt, Limit: 9, Samples: []api.Gauss{{}}}, 0, api.ErrRange},
	{api.CodeFrame{Gain: math.MaxInt, Limit: 9, Samples: []api.Gauss{{}}}, 0, api.ErrRange},
	{api.CodeFrame{}, 0, api.ErrRange},
	{api.CodeFrame{Limit: 0, Samples: []api.Gauss{{}}}, 0, api.ErrRange},
	{api.CodeFrame{Limit: -1, Samples: []api.Gauss{{}}}, 0, api.ErrRange},
	{api.CodeFrame{Limit: 2000001, Samples: repeated(65, api.Gauss{})}, 0, api.ErrRange},
	{api.CodeFrame{Limit: math.MinInt, Samples: []api.Gauss{{}}}, 0, api.ErrRange},
	{api.CodeFrame{Limit: math.MaxInt, Samples: []api.Gauss{{}}}, 0, api.ErrRange},
	{api.CodeFrame{Limit: 9, Gaps: []int{0}}, 0, api.ErrShape},
	{api.CodeFrame{Limit: 9, Samples: repeated(65, re(10))}, 0, api.ErrLarge},
	{api.CodeFrame{Limit: 9, Samples: []api.Gauss{{}, re(9), re(10)}, Gaps: []int{7}}, 2, api.ErrRange},
	{api.CodeFrame{Limit: 9, Samples: []api.Gauss{{}, re(-10), re(10)}}, 1, api.ErrRange},
	{api.CodeFrame{Limit: 9, Samples: []api.Gauss{{}, im(10)}}, 1, api.ErrRange},
	{api.CodeFrame{Limit: 9, Samples: []api.Gauss{{}, {}, im(-10)}}, 2, api.ErrRange},
	{api.CodeFrame{Limit: 9, Samples: []api.Gauss{{}, re(math.MinInt)}}, 1, api.ErrRange},
	{api.CodeFrame{Limit: 9, Samples: []api.Gauss{{}, im(math.MinInt)}}, 1, api.ErrRange},
	{api.CodeFrame{Limit: 9, Samples: []api.Gauss{{}, im(math.MaxInt)}}, 1, api.ErrRange},
	{api.CodeFrame{Limit: 9, Samples: repeated(3, api.Gauss{}), Gaps: []int{0, 2, 3}}, 2, api.ErrMissing},
	{api.CodeFrame{Limit: 9, Samples: repeated(3, api.Gauss{}), Gaps: []int{1, -1}}, 1, api.ErrMissing},
	{api.CodeFrame{Limit: 9, Samples: repeated(3, api.Gauss{}), Gaps: []int{math.MinInt}}, 0, api.ErrMissing},
	{api.CodeFrame{Limit: 9, Samples: repeated(3, api.Gauss{}), Gaps: []int{0, math.MaxInt}}, 1, api.ErrMissing},
	{api.CodeFrame{Limit: 9, Samples: repeated(3, api.Gauss{}), Gaps: []int{0, 2, 1, 5}}, 2, api.ErrOrder},
	{api.CodeFrame{Limit: 9, Samples: repeated(3, api.Gauss{}), Gaps: []int{0, 1, 1}}, 2, api.ErrOrder},
	{api.CodeFrame{Limit: 9, Samples: repeated(3, api.Gauss{}), Gaps: []int{0, 0}}, 1, api.ErrOrder},
	{api.CodeFrame{Limit: 9, Samples: repeated(3, api.Gauss{}), Gaps: repeated(1000, 2)}, 1, api.ErrOrder},
}

// P1.4

func TestCheckFrame(t *testing.T) {
	for _, f := range []api.CodeFrame{
		gapFrame,
		{Gain: 8, Limit: 1, Samples: repeated(64, re(1))},
		{Gain: -8, Limit: 2000000, Samples: []api.Gauss{{Re: 2000000, Im: -2000000}}, Gaps: []int{0}},
		{Limit: 3, Samples: repeated(4, im(-3)), Gaps: []int{0, 1, 2, 3}},
	} {
		i, e := CheckFrame(f)
		want(t, "CheckFrame", results(i, e), results(0, api.OK))
	}
	for _, x := range badFrames {
		i, e := CheckFrame(x.f)
		want(t, "CheckFrame", results(i, e), results(x.i, x.e))
	}
}

func TestUsableIn(t *testing.T) {
	l, e := UsableIn(gapFrame)
	want(t, "UsableIn", results(l, e), results([]int{0, 1, 2, 3, 4, 6, 7, 8, 10, 11, 12, 13, 14, 18}, api.OK))
	l, e = UsableIn(api.CodeFrame{Limit: 3, Samples: []api.Gauss{re(3), re(-3), im(3), im(-3), {Re: 2, Im: -2}}})
	want(t, "UsableIn with saturated samples", results(l, e), results([]int{4}, api.OK))
	l, e = UsableIn(api.CodeFrame{Limit: 3, Samples: repeated(2, api.Gauss{}), Gaps: []int{0, 1}})
	want(t, "UsableIn without usable samples", results(l, e), results([]int{}, api.OK))
	for _, x := range badFrames {
		l, e := UsableIn(x.f)
		refused(t, "UsableIn", x.e, l, e)
	}
}
