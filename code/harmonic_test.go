package code

import (
	"math"
	"testing"

	"skywave/api"
)

var smallFrame = api.CodeFrame{Limit: 9, Samples: []api.Gauss{re(3), {}, re(1), {}}}

// framesToTry are frames without gaps, with gaps, with a rest, without a block, and with great samples.
var framesToTry = []api.CodeFrame{
	smallFrame,
	gapFrame,
	{Limit: 100, Gain: -6, Samples: sampleList(3, 64, 99), Gaps: []int{5, 40}},
	{Limit: 30, Gain: 8, Samples: sampleList(4, 31, 30)},
	{Limit: 30, Samples: sampleList(5, 3, 20)},
	{Limit: 100000, Samples: sampleList(6, 64, 99999)},
	{Limit: 100000, Samples: repeated(64, api.Gauss{Re: 99999, Im: -99999})},
}

// badLists are lists of frames that are refused.
var badLists = []struct {
	l []api.CodeFrame
	e api.Errno
}{
	{nil, api.ErrShape},
	{repeated(5, api.CodeFrame{}), api.ErrLarge},
	{[]api.CodeFrame{smallFrame, {Limit: 9}, {}}, api.ErrShape},
	{[]api.CodeFrame{smallFrame, {}, {Limit: 9}}, api.ErrRange},
}

// harmonicByDefinition returns the harmonic n of four samples.
func harmonicByDefinition(samples []api.Gauss, n int) api.Gauss {
	var sum api.Gauss
	for q, s := range samples {
		sum = plus(sum, turned(s, -n*q))
	}
	return sum
}

// usableBlocks returns the first indexes of all usable blocks.
func usableBlocks(f api.CodeFrame) []int {
	usable := map[int]bool{}
	l, _ := UsableIn(f)
	for _, i := range l {
		usable[i] = true
	}
	var list []int
	for i := 0; i+3 < len(f.Samples); i += 4 {
		if usable[i] && usable[i+1] && usable[i+2] && usable[i+3] {
			list = append(list, i)
		}
	}
	return list
}

func powersByDefinition(l []api.CodeFrame) [4]int {
	var powers [4]int
	for _, f := range l {
		for _, i := range usableBlocks(f) {
			for n := range 4 {
				powers[n] += squareSize(harmonicByDefinition(f.Samples[i:i+4], n))
			}
		}
	}
	return powers
}

// P1.6

func TestPowersOf(t *testing.T) {
	p, e := PowersOf([]api.CodeFrame{smallFrame})
	want(t, "PowersOf", results(p, e), results([4]int{16, 4, 16, 4}, api.OK))
	p, e = PowersOf([]api.CodeFrame{{Limit: 9, Samples: []api.Gauss{re(1), im(1), re(-1), im(-1)}}})
	want(t, "PowersOf the wave i", results(p, e), results([4]int{0, 16, 0, 0}, api.OK))
	p, e = PowersOf([]api.CodeFrame{{Limit: 9, Samples: []api.Gauss{re(1), im(-1), re(-1), im(1), re(5)}}})
	want(t, "PowersOf the wave -i and a rest", results(p, e), results([4]int{0, 0, 0, 16}, api.OK))
	p, e = PowersOf([]api.CodeFrame{{Limit: 9, Samples: repeated(3, re(5))}})
	want(t, "PowersOf three samples", results(p, e), results([4]int{}, api.OK))
	for i := range framesToTry {
		for length := 1; length <= 4 && i+length <= len(framesToTry); length++ {
			l := framesToTry[i : i+length]
			p, e := PowersOf(l)
			want(t, "PowersOf", results(p, e), results(powersByDefinition(l), api.OK))
		}
	}
	great := repeated(4, api.CodeFrame{Limit: 2000000, Samples: repeated(64, api.Gauss{Re: 1999999, Im: 1999999})})
	p, e = PowersOf(great)
	want(t, "PowersOf the greatest frames", results(p, e), results([4]int{64 * 2 * 7999996 * 7999996, 0, 0, 0}, api.OK))
}

func TestPowersAndLinesErrors(t *testing.T) {
	for _, x := range badLists {
		p, e := PowersOf(x.l)
		refused(t, "PowersOf", x.e, p, e)
		l, e := LinesIn(x.l, api.Frac{})
		refused(t, "LinesIn", x.e, l, e)
	}
	for _, x := range badFrames {
		p, e := PowersOf([]api.CodeFrame{smallFrame, x.f})
		refused(t, "PowersOf a bad frame", x.e, p, e)
		l, e := LinesIn([]api.CodeFrame{x.f}, api.Frac{})
		refused(t, "LinesIn a bad frame", x.e, l, e)
	}
}

func TestLinesIn(t *testing.T) {
	for _, x := range []struct {
		num, den int
		lines    []int
	}{
		{1, 1, []int{0, 2}},
		{1, 2, []int{0, 2}},
		{3, 1, nil},
		{2, 1, nil}, // 3 times 16 is not greater than 2 times 24
		{99, 50, []int{0, 2}},
		{1, 3, []int{0, 2}}, // 3 times 4 is not greater than a third of 36
		{33, 100, []int{0, 1, 2, 3}},
		{1, 100, []int{0, 1, 2, 3}},
		{100, 1, nil},
	} {
		l, e := LinesIn([]api.CodeFrame{smallFrame}, api.Frac{Num: x.num, Den: x.den})
		want(t, "LinesIn", results(x, l, e), results(x, x.lines, api.OK))
	}
	l, e := LinesIn([]api.CodeFrame{{Limit: 9, Samples: make([]api.Gauss, 4)}}, api.Frac{Num: 1, Den: 100})
	want(t, "LinesIn frames without power", results(l, e), results([]int{}, api.OK))
	l, e = LinesIn([]api.CodeFrame{{Limit: 9, Samples: repeated(2, re(4))}}, api.Frac{Num: 1, Den: 100})
	want(t, "LinesIn frames without blocks", results(l, e), results([]int{}, api.OK))
	l, e = LinesIn([]api.CodeFrame{{Limit: 9, Samples: []api.Gauss{re(1), im(-1), re(-1), im(1)}}}, api.Frac{Num: 100, Den: 1})
	want(t, "LinesIn a wave", results(l, e), results([]int{3}, api.OK))
	great := repeated(4, api.CodeFrame{Limit: 2000000, Samples: repeated(64, api.Gauss{Re: 1999999, Im: 1999999})})
	l, e = LinesIn(great, api.Frac{Num: 100, Den: 99})
	want(t, "LinesIn the greatest frames", results(l, e), results([]int{0}, api.OK))
}

func TestLinesInRatios(t *testing.T) {
	for _, x := range []struct {
		ratio api.Frac
		e     api.Errno
	}{
		{api.Frac{}, api.ErrForm},
		{api.Frac{Num: 1}, api.ErrForm},
		{api.Frac{Num: 1, Den: -1}, api.ErrForm},
		{api.Frac{Num: -1, Den: -2}, api.ErrForm},
		{api.Frac{Num: 2, Den: 4}, api.ErrForm},
		{api.Frac{Num: 0, Den: 2}, api.ErrForm},
		{api.Frac{Num: -2, Den: 2}, api.ErrForm},
		{api.Frac{Num: 200, Den: 200}, api.ErrForm},
		{api.Frac{Num: math.MinInt, Den: 2}, api.ErrForm},
		{api.Frac{Num: 2, Den: math.MinInt}, api.ErrForm},
		{api.Frac{Num: math.MinInt, Den: math.MinInt}, api.ErrForm},
		{api.Frac{Num: math.MaxInt, Den: math.MaxInt}, api.ErrForm},
		{api.Frac{Num: 0, Den: 1}, api.ErrRange},
		{api.Frac{Num: -1, Den: 2}, api.ErrRange},
		{api.Frac{Num: 101, Den: 1}, api.ErrRange},
		{api.Frac{Num: 101, Den: 100}, api.ErrRange},
		{api.Frac{Num: 100, Den: 101}, api.ErrRange},
		{api.Frac{Num: math.MinInt, Den: 1}, api.ErrRange},
		{api.Frac{Num: math.MinInt, Den: math.MaxInt}, api.ErrRange},
		{api.Frac{Num: 1, Den: math.MaxInt}, api.ErrRange},
		{api.Frac{Num: 100, Den: 99}, api.OK},
		{api.Frac{Num: 99, Den: 100}, api.OK},
	} {
		l, e := LinesIn([]api.CodeFrame{{Limit: 9, Samples: []api.Gauss{re(1)}}}, x.ratio)
		refused(t, "LinesIn", x.e, l, e)
	}
}

func TestCleaned(t *testing.T) {
	f, e := Cleaned(smallFrame, []int{0})
	want(t, "Cleaned of 0", results(f, e), results(api.CodeFrame{Gain: -2, Limit: 180, Samples: []api.Gauss{re(8), re(-4), {}, re(-4)}}, api.OK))
	f, e = Cleaned(smallFrame, []int{2})
	want(t, "Cleaned of 2", results(f, e), results(api.CodeFrame{Gain: -2, Limit: 180, Samples: []api.Gauss{re(8), re(4), {}, re(4)}}, api.OK))
	f, e = Cleaned(smallFrame, []int{1})
	want(t, "Cleaned of 1", results(f, e), results(api.CodeFrame{Gain: -2, Limit: 180, Samples: []api.Gauss{re(10), im(-2), re(6), im(2)}}, api.OK))
	f, e = Cleaned(smallFrame, nil)
	want(t, "Cleaned of nothing", results(f, e), results(api.CodeFrame{Gain: -2, Limit: 180, Samples: []api.Gauss{re(12), {}, re(4), {}}}, api.OK))
	f, e = Cleaned(smallFrame, []int{0, 1, 2, 3})
	want(t, "Cleaned of all", results(f, e), results(api.CodeFrame{Gain: -2, Limit: 180, Samples: make([]api.Gauss, 4)}, api.OK))
	f, e = Cleaned(gapFrame, []int{0, 1, 2, 3})
	rest := gapFrame.Samples
	samples := make([]api.Gauss, len(rest))
	for i := 4; i < len(rest); i++ {
		samples[i] = api.Gauss{Re: 4 * rest[i].Re, Im: 4 * rest[i].Im}
	}
	want(t, "Cleaned with gaps", results(f, e), results(api.CodeFrame{Gain: -1, Limit: 180, Samples: samples, Gaps: []int{5, 9, 15, 16, 17}}, api.OK))
}

func TestCleanedErrors(t *testing.T) {
	for _, x := range badFrames {
		f, e := Cleaned(x.f, []int{7})
		refused(t, "Cleaned of a bad frame", x.e, f, e)
	}
	great := api.CodeFrame{Gain: -8, Limit: 100001, Samples: make([]api.Gauss, 4)}
	for _, x := range []struct {
		lines []int
		e     api.Errno
	}{
		{[]int{-1}, api.ErrRange},
		{[]int{4}, api.ErrRange},
		{[]int{3, 4}, api.ErrRange},
		{[]int{3, -1}, api.ErrRange},
		{[]int{math.MinInt}, api.ErrRange},
		{[]int{math.MaxInt}, api.ErrRange},
		{[]int{1, 0, 4}, api.ErrOrder},
		{[]int{2, 2}, api.ErrOrder},
		{[]int{0, 1, 2, 3, 3}, api.ErrOrder},
		{nil, api.ErrLarge},
		{[]int{0, 3}, api.ErrLarge},
	} {
		f, e := Cleaned(great, x.lines)
		refused(t, "Cleaned", x.e, f, e)
	}
	for _, gain := range []int{-8, -7} {
		f, e := Cleaned(api.CodeFrame{Gain: gain, Limit: 100000, Samples: make([]api.Gauss, 4)}, nil)
		refused(t, "Cleaned with a small gain", api.ErrBreak, f, e)
	}
	f, e := Cleaned(api.CodeFrame{Gain: -6, Limit: 100000, Samples: make([]api.Gauss, 1)}, nil)
	want(t, "Cleaned at the limits", results(f, e), results(api.CodeFrame{Gain: -8, Limit: 2000000, Samples: make([]api.Gauss, 1)}, api.OK))
}

// P1.12

func TestInAnyOrder(t *testing.T) {
	l := framesToTry[:4]
	first, e := PowersOf(l)
	want(t, "PowersOf", e, api.OK)
	for i := range l {
		for j := range l {
			swapped := append([]api.CodeFrame{}, l...)
			swapped[i], swapped[j] = swapped[j], swapped[i]
			p, e := PowersOf(swapped)
			want(t, "PowersOf in another order", results(p, e), results(first, api.OK))
		}
	}
}

func TestPowersAfterCleaning(t *testing.T) {
	for _, f := range framesToTry {
		before, _ := PowersOf([]api.CodeFrame{f})
		for set := range 16 {
			var lines []int
			expected := [4]int{}
			for n := range 4 {
				if set>>n&1 == 1 {
					lines = append(lines, n)
				} else {
					expected[n] = 16 * before[n]
				}
			}
			cleaned, e := Cleaned(f, lines)
			want(t, "Cleaned", e, api.OK)
			i, e := CheckFrame(cleaned)
			want(t, "CheckFrame of the cleaned frame", results(i, e), results(0, api.OK))
			after, e := PowersOf([]api.CodeFrame{cleaned})
			want(t, "PowersOf the cleaned frame", results(after, e), results(expected, api.OK))
			old, _ := UsableIn(f)
			usable, e := UsableIn(cleaned)
			want(t, "UsableIn the cleaned frame", results(usable, e), results(old, api.OK))
		}
	}
}

// P1.13

func TestEnergy(t *testing.T) {
	for _, f := range framesToTry {
		energy := 0
		for _, i := range usableBlocks(f) {
			for _, s := range f.Samples[i : i+4] {
				energy += squareSize(s)
			}
		}
		p, e := PowersOf([]api.CodeFrame{f})
		want(t, "the sum of the powers", results(p[0]+p[1]+p[2]+p[3], e), results(4*energy, api.OK))
	}
}
