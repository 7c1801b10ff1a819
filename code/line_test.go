package code

import (
	"math"
	"testing"

	"skywave/api"
)

// example is the line of the chapter's fifth example.
var example = api.CodeLine{Values: []api.Gauss{im(5), im(5), {}}, Missing: []int{0, 1, 1}}

// badWaves are waves that are refused, and badLines lines.
var badWaves = []struct {
	w []api.Gauss
	e api.Errno
}{
	{nil, api.ErrShape},
	{repeated(33, re(2)), api.ErrLarge},
	{[]api.Gauss{re(1), {}}, api.ErrForm},
	{[]api.Gauss{re(1), re(2)}, api.ErrForm},
	{[]api.Gauss{im(-2)}, api.ErrForm},
	{[]api.Gauss{{Re: 1, Im: 1}}, api.ErrForm},
	{[]api.Gauss{{Re: math.MinInt, Im: 1}}, api.ErrForm},
	{repeated(20, re(3)), api.ErrForm},
}

var badLines = []struct {
	l api.CodeLine
	e api.Errno
}{
	{api.CodeLine{}, api.ErrShape},
	{api.CodeLine{Missing: []int{1}}, api.ErrShape},
	{api.CodeLine{Values: []api.Gauss{{}}}, api.ErrShape},
	{api.CodeLine{Values: repeated(65, re(math.MaxInt)), Missing: make([]int, 64)}, api.ErrShape},
	{api.CodeLine{Values: []api.Gauss{{}}, Missing: []int{0, 0}}, api.ErrShape},
	{lineOf(repeated(65, re(math.MaxInt))...), api.ErrLarge},
	{lineOf(re(0), re(1000000001)), api.ErrRange},
	{lineOf(re(-1000000001)), api.ErrRange},
	{lineOf(re(0), im(1000000001)), api.ErrRange},
	{lineOf(im(-1000000001)), api.ErrRange},
	{lineOf(im(math.MinInt)), api.ErrRange},
	{lineOf(re(math.MinInt)), api.ErrRange},
	{lineOf(re(math.MaxInt)), api.ErrRange},
	{api.CodeLine{Values: repeated(2, re(1)), Missing: []int{0, -1}}, api.ErrRange},
	{api.CodeLine{Values: repeated(2, re(1)), Missing: []int{65, 0}}, api.ErrRange},
	{api.CodeLine{Values: repeated(2, re(1)), Missing: []int{0, math.MinInt}}, api.ErrRange},
	{api.CodeLine{Values: repeated(2, re(1)), Missing: []int{0, math.MaxInt}}, api.ErrRange},
}

// badRules are rules that are refused; all of them with ErrRange.
var badRules = append([]api.CodeRule{
	{Budget: -1},
	{Budget: 2000001},
	{Threshold: -1},
	{Threshold: 1000000001},
}, extremeRules()...)

func extremeRules() []api.CodeRule {
	var list []api.CodeRule
	for _, n := range extremes {
		list = append(list, api.CodeRule{Budget: n}, api.CodeRule{Threshold: n})
	}
	return list
}

// P1.5

func TestCompressed(t *testing.T) {
	one, other := []api.Gauss{re(1), re(1)}, []api.Gauss{re(1), re(-1)}
	f := api.CodeFrame{Limit: 9, Samples: []api.Gauss{{}, im(5), im(5), {}}}
	l, e := Compressed(f, one)
	want(t, "Compressed", results(l, e), results(lineOf(im(5), im(10), im(5)), api.OK))
	l, e = Compressed(api.CodeFrame{Limit: 9, Samples: []api.Gauss{{}, im(5), im(-5), {}}}, other)
	want(t, "Compressed with the other code", results(l, e), results(lineOf(im(-5), im(10), im(-5)), api.OK))
	f.Gaps = []int{2}
	l, e = Compressed(f, one)
	want(t, "Compressed with a gap", results(l, e), results(example, api.OK))
	l, e = Compressed(api.CodeFrame{Limit: 9, Samples: []api.Gauss{{Re: 2, Im: 3}}}, []api.Gauss{im(1)})
	want(t, "Compressed with i", results(l, e), results(lineOf(api.Gauss{Re: 3, Im: -2}), api.OK))
	l, e = Compressed(api.CodeFrame{Limit: 9, Samples: []api.Gauss{im(2), im(9)}}, one)
	want(t, "Compressed as long as the frame", results(l, e), results(api.CodeLine{Values: []api.Gauss{im(2)}, Missing: []int{1}}, api.OK))
}

func TestCompressedByDefinition(t *testing.T) {
	chirp, _ := ChirpWave(api.CodeChirp{Start: 3, Num: 5, Den: 7}, 32)
	frames := []api.CodeFrame{
		gapFrame,
		{Limit: 2000000, Samples: sampleList(1, 64, 2000000), Gaps: []int{0, 13, 63}},
		{Limit: 50, Samples: sampleList(2, 32, 50)},
		{Limit: 2000000, Samples: repeated(64, api.Gauss{Re: 1999999, Im: -1999999})},
	}
	for _, f := range frames {
		for length := 1; length <= min(32, len(f.Samples)); length++ {
			wave := chirp[:length]
			l, e := Compressed(f, wave)
			want(t, "Compressed", results(l, e), results(compressedByDefinition(f, wave), api.OK))
		}
	}
}

func compressedByDefinition(f api.CodeFrame, wave []api.Gauss) api.CodeLine {
	usable := map[int]bool{}
	list, _ := UsableIn(f)
	for _, i := range list {
		usable[i] = true
	}
	line := lineOf(make([]api.Gauss, len(f.Samples)-len(wave)+1)...)
	for lag := range line.Values {
		for i, w := range wave {
			if usable[i+lag] {
				line.Values[lag] = plus(line.Values[lag], times(api.Gauss{Re: w.Re, Im: -w.Im}, f.Samples[i+lag]))
			} else {
				line.Missing[lag]++
			}
		}
	}
	return line
}

func TestCompressedErrors(t *testing.T) {
	for _, x := range badFrames {
		l, e := Compressed(x.f, nil)
		refused(t, "Compressed of a bad frame", x.e, l, e)
	}
	for _, x := range badWaves {
		l, e := Compressed(gapFrame, x.w)
		refused(t, "Compressed with a bad wave", x.e, l, e)
	}
	l, e := Compressed(gapFrame, repeated(20, im(-1)))
	refused(t, "Compressed with a long wave", api.ErrShape, l, e)
	l, e = Compressed(gapFrame, repeated(19, im(-1)))
	want(t, "Compressed to one value", results(len(l.Values), e), results(1, api.OK))
}

func TestCombined(t *testing.T) {
	l, e := Combined(lineOf(im(5), im(10), im(5)), lineOf(im(-5), im(10), im(-5)))
	want(t, "Combined", results(l, e), results(lineOf(im(0), im(20), im(0)), api.OK))
	l, e = Combined(example, api.CodeLine{Values: []api.Gauss{re(1), {Re: 2, Im: 3}, im(-4)}, Missing: []int{3, 2, 63}})
	want(t, "Combined", results(l, e), results(api.CodeLine{
		Values:  []api.Gauss{{Re: 1, Im: 5}, {Re: 2, Im: 8}, {Im: -4}},
		Missing: []int{3, 3, 64},
	}, api.OK))
	half := lineOf(api.Gauss{Re: 500000000, Im: -500000000})
	l, e = Combined(half, half)
	want(t, "Combined to the limit", results(l, e), results(lineOf(api.Gauss{Re: 1000000000, Im: -1000000000}), api.OK))
}

func TestCombinedErrors(t *testing.T) {
	for _, x := range badLines {
		l, e := Combined(x.l, api.CodeLine{})
		refused(t, "Combined with a bad first line", x.e, l, e)
		l, e = Combined(example, x.l)
		refused(t, "Combined with a bad second line", x.e, l, e)
	}
	l, e := Combined(lineOf(re(1000000000)), lineOf(re(1000000000), re(0)))
	refused(t, "Combined lines of two lengths", api.ErrClash, l, e)
	l, e = Combined(lineOf(re(1000000000), re(0)), lineOf(re(1000000000)))
	refused(t, "Combined lines of two lengths", api.ErrClash, l, e)
	for _, g := range []api.Gauss{re(1), re(-1), im(1), im(-1)} {
		great := api.Gauss{Re: 1000000000 * g.Re, Im: 1000000000 * g.Im}
		l, e = Combined(lineOf(re(0), great), lineOf(re(0), g))
		refused(t, "Combined to a value that is too great", api.ErrLarge, l, e)
	}
	l, e = Combined(api.CodeLine{Values: make([]api.Gauss, 2), Missing: []int{0, 64}}, api.CodeLine{Values: make([]api.Gauss, 2), Missing: []int{0, 1}})
	refused(t, "Combined with too many that are missing", api.ErrLarge, l, e)
}

func TestLevelAt(t *testing.T) {
	for _, x := range []struct {
		l           api.CodeLine
		lag, budget int
		level       api.Range
	}{
		{example, 0, 2, api.Range{Lo: 25, Hi: 25}},
		{example, 1, 2, api.Range{Lo: 9, Hi: 53}},
		{example, 2, 2, api.Range{Lo: 0, Hi: 8}},
		{example, 1, 0, api.Range{Lo: 25, Hi: 25}},
		{example, 1, 5, api.Range{Lo: 0, Hi: 125}},
		{api.CodeLine{Values: []api.Gauss{{Re: -10, Im: 7}}, Missing: []int{3}}, 0, 1, api.Range{Lo: 49 + 16, Hi: 169 + 100}},
		{api.CodeLine{Values: []api.Gauss{{Re: -10, Im: 7}}, Missing: []int{64}}, 0, 0, api.Range{Lo: 149, Hi: 149}},
		{api.CodeLine{Values: []api.Gauss{{Re: -1000000000, Im: 1000000000}}, Missing: []int{64}}, 0, 2000000,
			api.Range{Lo: 2 * 872000000 * 872000000, Hi: 2 * 1128000000 * 1128000000}},
		{lineOf(repeated(64, re(3))...), 63, 2000000, api.Range{Lo: 9, Hi: 9}},
	} {
		r, e := LevelAt(x.l, x.lag, x.budget)
		want(t, "LevelAt", results(r, e), results(x.level, api.OK))
	}
}

func TestAnswerAt(t *testing.T) {
	for _, x := range []struct{ lag, budget, threshold, answer int }{
		{0, 2, 3, api.AnswerYes},
		{1, 2, 3, api.AnswerYes},
		{2, 2, 3, api.AnswerNo},
		{0, 2, 5, api.AnswerYes},
		{0, 2, 6, api.AnswerNo},
		{1, 2, 4, api.AnswerMaybe},
		{1, 2, 7, api.AnswerMaybe},
		{1, 2, 8, api.AnswerNo},
		{1, 0, 5, api.AnswerYes},
		{2, 2, 2, api.AnswerMaybe},
		{2, 2, 0, api.AnswerYes},
		{2, 4, 0, api.AnswerYes},
		{2, 0, 1, api.AnswerNo},
		{0, 2000000, 1000000000, api.AnswerNo},
	} {
		n, e := AnswerAt(example, x.lag, api.CodeRule{Budget: x.budget, Threshold: x.threshold})
		want(t, "AnswerAt", results(x, n, e), results(x, x.answer, api.OK))
	}
	n, e := AnswerAt(lineOf(re(1000000000)), 0, api.CodeRule{Threshold: 1000000000})
	want(t, "AnswerAt the greatest threshold", results(n, e), results(api.AnswerYes, api.OK))
	// both parts of the level reach the square of the threshold exactly: 2 + 2 and 3 + 4
	n, e = AnswerAt(api.CodeLine{Values: []api.Gauss{{Re: 2, Im: 3}}, Missing: []int{1}}, 0, api.CodeRule{Budget: 1, Threshold: 5})
	want(t, "AnswerAt the upper end", results(n, e), results(api.AnswerMaybe, api.OK))
}

func TestLevelAndAnswerErrors(t *testing.T) {
	for _, x := range badLines {
		r, e := LevelAt(x.l, -1, -1)
		refused(t, "LevelAt of a bad line", x.e, r, e)
		n, e := AnswerAt(x.l, -1, api.CodeRule{Budget: -1})
		refused(t, "AnswerAt of a bad line", x.e, n, e)
	}
	for _, lag := range append([]int{-1, 3}, extremes...) {
		r, e := LevelAt(example, lag, -1)
		refused(t, "LevelAt of a bad lag", api.ErrMissing, r, e)
		n, e := AnswerAt(example, lag, api.CodeRule{Budget: -1})
		refused(t, "AnswerAt of a bad lag", api.ErrMissing, n, e)
	}
	for _, budget := range append([]int{-1, 2000001}, extremes...) {
		r, e := LevelAt(example, 2, budget)
		refused(t, "LevelAt of a bad budget", api.ErrRange, r, e)
	}
	for _, rule := range badRules {
		n, e := AnswerAt(example, 2, rule)
		refused(t, "AnswerAt of a bad rule", api.ErrRange, n, e)
	}
}

func TestPeaksOf(t *testing.T) {
	for _, x := range []struct {
		l     api.CodeLine
		r     api.CodeRule
		peaks []int
	}{
		{example, api.CodeRule{Budget: 2, Threshold: 3}, []int{0}},
		{example, api.CodeRule{Budget: 0, Threshold: 3}, []int{0, 1}},
		{example, api.CodeRule{Budget: 2, Threshold: 6}, nil},
		{lineOf(re(4)), api.CodeRule{Threshold: 4}, []int{0}},
		{lineOf(re(4)), api.CodeRule{Threshold: 5}, nil},
		{lineOf(re(1), re(2), re(3)), api.CodeRule{}, []int{2}},
		{lineOf(re(3), re(2), re(1)), api.CodeRule{}, []int{0}},
		{lineOf(re(0), re(0), re(0)), api.CodeRule{}, []int{0, 1, 2}},
		{lineOf(re(0), re(0), re(0)), api.CodeRule{Threshold: 1}, nil},
		{lineOf(re(5), re(1), im(-4), im(-4), re(3), re(6)), api.CodeRule{Threshold: 4}, []int{0, 2, 3, 5}},
		{lineOf(re(5), re(1), im(-4), im(-4), re(3), re(6)), api.CodeRule{Threshold: 5}, []int{0, 5}},
		// a neighbour with a wide level has a small lower end, and so is no obstacle
		{api.CodeLine{Values: []api.Gauss{re(9), re(4)}, Missing: []int{2, 0}}, api.CodeRule{Budget: 3, Threshold: 4}, []int{1}},
	} {
		l, e := PeaksOf(x.l, x.r)
		want(t, "PeaksOf", results(x, l, e), results(x, x.peaks, api.OK))
	}
	for _, x := range badLines {
		l, e := PeaksOf(x.l, api.CodeRule{Budget: -1})
		refused(t, "PeaksOf a bad line", x.e, l, e)
	}
	for _, rule := range badRules {
		l, e := PeaksOf(example, rule)
		refused(t, "PeaksOf with a bad rule", api.ErrRange, l, e)
	}
}

// P1.9

func TestOneEcho(t *testing.T) {
	for i, p := range pairsToTry(t) {
		length := len(p.A)
		g := []api.Gauss{re(7), im(-3), {Re: 3, Im: 4}, {Re: -5, Im: 2}}[i%4]
		at := i % 5
		first, e := Compressed(echoFrame(p.A, g, at), waveFrom(t, p.A))
		second, f := Compressed(echoFrame(p.B, g, at), waveFrom(t, p.B))
		line, h := Combined(first, second)
		want(t, "errors", results(e, f, h), results(api.OK, api.OK, api.OK))
		expected := make([]api.Gauss, 3*length+5-length+1)
		expected[at] = api.Gauss{Re: 2 * length * g.Re, Im: 2 * length * g.Im}
		want(t, "the combined line", line, lineOf(expected...))
	}
}

func waveFrom(t *testing.T, c []int) []api.Gauss {
	t.Helper()
	w, e := WaveOf(c)
	want(t, "WaveOf", e, api.OK)
	return w
}

// echoFrame returns a frame with a code, times a number, at a lag, and 0 elsewhere.
func echoFrame(c []int, g api.Gauss, lag int) api.CodeFrame {
	f := api.CodeFrame{Limit: 100, Samples: make([]api.Gauss, 3*len(c)+5)}
	for i, n := range c {
		f.Samples[lag+i] = api.Gauss{Re: n * g.Re, Im: n * g.Im}
	}
	return f
}

// P1.11

func TestWhateverWasLost(t *testing.T) {
	wave := []api.Gauss{re(1), im(1), im(-1), re(-1)}
	const budget = 3
	parts := []int{-budget, -1, 0, budget}
	for seed := range 6 {
		f := api.CodeFrame{Limit: 9, Samples: sampleList(seed, 6, 6), Gaps: []int{1, 3}}
		lost, e := Compressed(f, wave)
		want(t, "Compressed", e, api.OK)
		full := api.CodeFrame{Limit: 9, Samples: append([]api.Gauss{}, f.Samples...)}
		for _, a := range squareOfParts(parts) {
			for _, b := range squareOfParts(parts) {
				full.Samples[1], full.Samples[3] = a, b
				line, e := Compressed(full, wave)
				want(t, "Compressed", e, api.OK)
				for lag, value := range line.Values {
					r, e := LevelAt(lost, lag, budget)
					size := squareSize(value)
					if e != api.OK || size < r.Lo || size > r.Hi {
						t.Errorf("%d is not in the level %v (%d)", size, r, e)
					}
				}
			}
		}
	}
}

// squareOfParts returns all numbers with these parts.
func squareOfParts(parts []int) []api.Gauss {
	var list []api.Gauss
	for _, a := range parts {
		for _, b := range parts {
			list = append(list, api.Gauss{Re: a, Im: b})
		}
	}
	return list
}

func TestLevelsWiden(t *testing.T) {
	for seed := range 6 {
		line := api.CodeLine{Values: sampleList(seed, 8, 40), Missing: []int{0, 1, 2, 3, 5, 9, 20, 64}}
		for lag := range line.Values {
			before := api.Range{Lo: math.MaxInt, Hi: 0}
			for _, budget := range []int{0, 1, 2, 3, 7, 20, 500, 2000000} {
				r, e := LevelAt(line, lag, budget)
				if e != api.OK || r.Lo > r.Hi || budget > 0 && (r.Lo > before.Lo || r.Hi < before.Hi) {
					t.Errorf("the level %v (%d) after %v", r, e, before)
				}
				if budget == 0 && r.Lo != r.Hi {
					t.Errorf("the level %v without a budget", r)
				}
				before = r
			}
		}
	}
}
