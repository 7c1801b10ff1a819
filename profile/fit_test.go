package profile

import (
	"testing"

	"skywave/api"
)

// P4.5

func TestFitted(t *testing.T) {
	for _, x := range []struct {
		t api.ProfileTrace
		p api.ProfileSky
	}{
		{exampleTrace(), sky(99, 90000, 20, 250000, 1)},
		{traced(300, 99, 101), sky(99, 90000, 1)},
		{withValley(exampleTrace(), 1, 0), sky(99, 90000, 20, 250000, 1)},
		{traced(3000, 500, 501), sky(500, 9000000, 1)},
		{traced(300, 0, 0, 500, 0, 9), sky(0, 90000, 0, 250000, 1)},
		{traced(300, 100, 100, 500, 40, 100), sky(100, 90000, 0, 250000, 1)},
		{traced(300, 100, 100, 500, 101, 101), sky(100, 90000, 1, 250000, 1)},
		{traced(300, 100, 100, 500, 102, 102), sky(100, 90000, 1, 250000, 1)},
		{traced(300, 100, 100, 500, 103, 103), sky(100, 90000, 2, 250000, 1)},
		{traced(300, 0, 0, 500, 625, 625), sky(0, 90000, 500, 250000, 1)},
		{traced(300, 0, 0, 301, 5, 12), sky(0, 90000, 1, 90601, 1)},
		{traced(313, 100, 100, 332, 102, 102), sky(100, 97969, 1, 110224, 1)},                           // the index is 2999 to 3000
		{traced(313, 100, 100, 320, 104, 105, 332, 102, 102), sky(100, 97969, 1, 102400, 0, 110224, 1)}, // so it is of 332
		{traced(300, 100, 100, 500, 125, 125, 600, 180, 180), sky(100, 90000, 20, 250000, 31, 360000, 1)},
		{traced(1, 0, 0, 2, 0, 0, 3, 0, 0, 4, 0, 0, 5, 0, 0, 6, 0, 0, 7, 0, 0, 8, 0, 0), sky(0, 1, 0, 4, 0, 9, 0, 16, 0, 25, 0, 36, 0, 49, 0, 64, 1)},
	} {
		p, at, e := Fitted(x.t)
		want(t, "Fitted "+FormatTrace(x.t), results(FormatProfile(p), at, e), results(FormatProfile(x.p), 0, api.OK))
	}
}

func TestFittedErrors(t *testing.T) {
	for _, x := range []struct {
		t  api.ProfileTrace
		at int
		e  api.Errno
	}{
		{withValley(traced(300, 99, 101), 0, 1), 0, api.ErrKind},
		{withValley(exampleTrace(), 1, 500), 0, api.ErrKind},
		{withValley(traced(300, 501, 501), 0, 1), 0, api.ErrKind},
		{traced(300, 501, 501), 0, api.ErrBreak},
		{traced(300, 20000, 20000, 500, 0, 0), 0, api.ErrBreak},
		{traced(300, 0, 0, 500, 626, 626), 1, api.ErrBreak},
		{traced(300, 0, 0, 301, 6141, 6141), 1, api.ErrBreak},
		{traced(300, 0, 0, 3000, 20000, 20000), 1, api.ErrBreak},
		{traced(300, 0, 0, 301, 5, 11), 1, api.ErrNone},
		{traced(300, 0, 0, 301, 5, 11, 3000, 20000, 20000), 1, api.ErrNone},
		{traced(300, 0, 0, 500, 626, 626, 501, 1, 1), 1, api.ErrBreak},
		{traced(300, 100, 101, 500, 90, 95), 1, api.ErrNone},
		{traced(300, 100, 101, 500, 90, 99), 1, api.ErrNone},
		{traced(300, 100, 100, 500, 125, 125, 600, 0, 122), 2, api.ErrNone},
		{traced(300, 100, 100, 500, 125, 125, 600, 20000, 20000, 700, 0, 0), 2, api.ErrBreak},
	} {
		p, at, e := Fitted(x.t)
		want(t, "Fitted "+FormatTrace(x.t), results(at, e), results(x.at, x.e))
		refused(t, "Fitted "+FormatTrace(x.t), x.e, p.Base, p.Slabs, e)
	}
}

// fittedByDefinition tries the thicknesses of each slab one by one.
func fittedByDefinition(x api.ProfileTrace) (api.ProfileSky, int, api.Errno) {
	p := sky(x.Points[0].Pixel.Lo)
	if p.Base > 500 {
		return api.ProfileSky{}, 0, api.ErrBreak
	}
	for k, point := range x.Points[1:] {
		f, below := point.Frequency, x.Points[k].Frequency
		p.Slabs = append(p.Slabs, api.ProfileSlab{Square: below * below}, api.ProfileSlab{Square: f * f, Thickness: 1})
		virtual, e := VirtualAt(p, f)
		for e == api.OK && virtual.Hi < point.Pixel.Lo {
			p.Slabs[k].Thickness++
			virtual, e = VirtualAt(p, f)
		}
		if e != api.OK {
			return api.ProfileSky{}, k + 1, api.ErrBreak
		}
		if virtual.Lo > point.Pixel.Hi {
			return api.ProfileSky{}, k + 1, api.ErrNone
		}
		p.Slabs = p.Slabs[:k+1]
	}
	last := x.Points[len(x.Points)-1].Frequency
	p.Slabs = append(p.Slabs, api.ProfileSlab{Square: last * last, Thickness: 1})
	return p, 0, api.OK
}

// P4.9: the fitted profile agrees with no point with AnswerNo.
func TestFittedByDefinition(t *testing.T) {
	fitted, counts := 0, map[api.Errno]int{}
	for _, x := range goodTraces() {
		x.Width = 0
		expected, expectedAt, expectedError := fittedByDefinition(x)
		p, at, e := Fitted(x)
		want(t, "Fitted "+FormatTrace(x), results(p.Base, p.Slabs, at, e), results(expected.Base, expected.Slabs, expectedAt, expectedError))
		counts[e]++
		if e != api.OK {
			continue
		}
		answers, e := AgreesWith(p, x)
		want(t, "AgreesWith", e, api.OK)
		for _, answer := range answers {
			if answer == api.AnswerNo {
				t.Errorf("%s: the fitted profile %s: %v", FormatTrace(x), FormatProfile(p), answers)
			}
		}
		if len(x.Points) > 2 {
			fitted++
		}
	}
	if fitted < 30 || counts[api.ErrBreak] < 10 || counts[api.ErrNone] < 10 {
		t.Error("fitted:", fitted, counts)
	}
}

// Pixels of a single kilometre near the virtual heights of a profile: what is rounded decides.
func TestFittedToNarrowPixels(t *testing.T) {
	counts := map[api.Errno]int{}
	for seed := range 1500 {
		next := numbers(seed)
		p, frequencies := risingSky(seed)
		x, _, e := TraceOf(p, frequencies)
		if e != api.OK {
			continue
		}
		for i, point := range x.Points {
			n := max(0, point.Pixel.Lo+next(3)-1)
			x.Points[i].Pixel = rangeOf(n, n)
		}
		expected, expectedAt, expectedError := fittedByDefinition(x)
		fitted, at, e := Fitted(x)
		want(t, "Fitted "+FormatTrace(x), results(fitted.Base, fitted.Slabs, at, e), results(expected.Base, expected.Slabs, expectedAt, expectedError))
		counts[e]++
	}
	if counts[api.OK] < 100 || counts[api.ErrNone] < 100 {
		t.Error("fitted:", counts)
	}
}

func TestFittedToItsOwnTrace(t *testing.T) {
	for seed := range 600 {
		p, frequencies := risingSky(seed)
		x, _, e := TraceOf(p, frequencies)
		if e != api.OK {
			continue
		}
		for _, answer := range must(AgreesWith(p, x)) {
			want(t, "whether a profile agrees with its own trace", answer, api.AnswerYes)
		}
		fitted, _, e := Fitted(x)
		if e != api.OK {
			continue
		}
		for _, answer := range must(AgreesWith(fitted, x)) {
			want(t, "whether the fitted profile disagrees", answer == api.AnswerNo, false)
		}
	}
}

// must returns the answers of a call without an error, and an impossible one otherwise.
func must(answers []int, e api.Errno) []int {
	if e != api.OK || len(answers) == 0 {
		return []int{-1}
	}
	return answers
}

func TestAgreesWith(t *testing.T) {
	for _, x := range []struct {
		p       api.ProfileSky
		t       api.ProfileTrace
		answers []int
	}{
		{exampleSky(), traced(300, 99, 101, 500, 125, 126, 501, 1, 2), []int{api.AnswerYes, api.AnswerYes, api.AnswerNo}},
		{exampleSky(), withValley(traced(300, 99, 101, 500, 125, 126, 501, 1, 2), 0, 500), []int{api.AnswerYes, api.AnswerYes, api.AnswerNo}},
		{exampleSky(), traced(1, 100, 100, 2, 101, 101, 3, 99, 99, 4, 0, 100, 5, 100, 20000), []int{api.AnswerYes, api.AnswerNo, api.AnswerNo, api.AnswerYes, api.AnswerYes}},
		{exampleSky(), traced(501, 0, 20000, 3000, 0, 20000), []int{api.AnswerNo, api.AnswerNo}},
	} {
		answers, e := AgreesWith(x.p, x.t)
		want(t, "AgreesWith "+FormatTrace(x.t), results(answers, e), results(x.answers, api.OK))
	}
	// The virtual height is 345 to 346.
	for pixel, expected := range map[api.Range]int{
		rangeOf(345, 346): api.AnswerYes, rangeOf(344, 347): api.AnswerYes, rangeOf(345, 347): api.AnswerYes, rangeOf(0, 346): api.AnswerYes,
		rangeOf(345, 345): api.AnswerMaybe, rangeOf(346, 346): api.AnswerMaybe, rangeOf(346, 400): api.AnswerMaybe, rangeOf(0, 345): api.AnswerMaybe,
		rangeOf(347, 400): api.AnswerNo, rangeOf(0, 344): api.AnswerNo, rangeOf(347, 347): api.AnswerNo, rangeOf(344, 344): api.AnswerNo,
	} {
		answers, e := AgreesWith(exampleSky(), traced(301, pixel.Lo, pixel.Hi))
		want(t, "AgreesWith", results(pixel, answers, e), results(pixel, []int{expected}, api.OK))
	}
	// A virtual height may be wider than a pixel, and contain it.
	wide := sky(0, 100000, 500, 100000, 500, 100000, 500, 250000, 0)
	virtual, _ := VirtualAt(wide, 500)
	want(t, "VirtualAt", virtual, rangeOf(1935, 1937))
	answers, e := AgreesWith(wide, traced(500, 1936, 1936))
	want(t, "AgreesWith", results(answers, e), results([]int{api.AnswerMaybe}, api.OK))
}

// Whether a point agrees says by definition what numbers both ranges have in common.
func TestAgreesWithByDefinition(t *testing.T) {
	for seed := range 400 {
		next := numbers(seed)
		p, x := irregularSky(seed), irregularTrace(seed)
		for i, point := range x.Points {
			if virtual, e := VirtualAt(p, point.Frequency); e == api.OK && virtual.Hi < 19000 {
				lo := max(0, virtual.Lo+next(7)-3)
				x.Points[i].Pixel = rangeOf(lo, lo+next(5))
			}
		}
		answers, e := AgreesWith(p, x)
		want(t, "AgreesWith", results(len(answers), e), results(len(x.Points), api.OK))
		for i, point := range x.Points {
			virtual, e := VirtualAt(p, point.Frequency)
			common, all := 0, virtual.Hi-virtual.Lo+1
			for n := virtual.Lo; n <= virtual.Hi; n++ {
				if within(n, point.Pixel) {
					common++
				}
			}
			expected := api.AnswerMaybe
			if e != api.OK || common == 0 {
				expected = api.AnswerNo
			} else if common == all {
				expected = api.AnswerYes
			}
			want(t, "AgreesWith "+FormatProfile(p)+" and "+FormatTrace(x), answers[i], expected)
		}
	}
}
