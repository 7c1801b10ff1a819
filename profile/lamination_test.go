package profile

import (
	"testing"

	"skywave/api"
)

// goodTraces are valid traces, with the ends of all ranges.
func goodTraces() []api.ProfileTrace {
	list := []api.ProfileTrace{
		exampleTrace(), lastTrace(), withValley(lastTrace(), 7, 500), withValley(exampleTrace(), 1, 0),
		traced(1, 0, 0), traced(3000, 20000, 20000), withValley(traced(5, 0, 1), 0, 500),
	}
	for seed := range 600 {
		list = append(list, irregularTrace(seed))
	}
	return list
}

// indexBetween returns the index of the frequency of a point in the slab above another point.
func indexBetween(t api.ProfileTrace, slab, point int) api.Range {
	square := t.Points[slab].Frequency * t.Points[slab].Frequency
	index, _ := IndexAt(square, t.Points[point].Frequency)
	return index
}

// laminatedByDefinition returns the thicknesses of all slabs, or the point that contradicts those below.
func laminatedByDefinition(t api.ProfileTrace) ([]api.Range, int) {
	var slabs []api.Range
	h := t.Points[0].Pixel
	for k := 0; k+1 < len(t.Points); k++ {
		a := 1000 * (t.Points[k+1].Pixel.Lo - h.Hi)
		b := 1000 * (t.Points[k+1].Pixel.Hi - h.Lo)
		for j := 0; j < k; j++ {
			a -= slabs[j].Hi * indexBetween(t, j, k+1).Hi
			b -= slabs[j].Lo * indexBetween(t, j, k+1).Lo
		}
		if k >= t.After {
			a -= t.Width * indexBetween(t, t.After, k+1).Hi
		}
		if b < 0 {
			return nil, k + 1
		}
		var slab api.Range
		for (slab.Lo+1)*indexBetween(t, k, k+1).Hi <= a {
			slab.Lo++
		}
		for slab.Hi*indexBetween(t, k, k+1).Lo < b {
			slab.Hi++
		}
		slabs = append(slabs, slab)
	}
	return slabs, 0
}

// heightsByDefinition returns the true heights of all points by the thicknesses of all slabs.
func heightsByDefinition(t api.ProfileTrace, slabs []api.Range) []api.Range {
	var heights []api.Range
	for point := range t.Points {
		height := t.Points[0].Pixel
		for _, slab := range slabs[:point] {
			height.Lo += slab.Lo
			height.Hi += slab.Hi
		}
		if point > t.After {
			height.Hi += t.Width
		}
		heights = append(heights, height)
	}
	return heights
}

// P4.3

func TestCheckTrace(t *testing.T) {
	for _, x := range goodTraces() {
		point, e := CheckTrace(x)
		want(t, "CheckTrace", results(point, e), results(0, api.OK))
	}
	for _, x := range badTraces() {
		point, e := CheckTrace(x.t)
		want(t, "CheckTrace of "+start(FormatTrace(x.t)), results(point, e), results(x.point, x.e))
	}
}

func TestBadTraces(t *testing.T) {
	for _, x := range badTraces() {
		slabs, at, e := Laminated(x.t)
		refused(t, "Laminated", x.e, slabs, at, e)
		heights, e := HeightsOf(x.t)
		refused(t, "HeightsOf", x.e, heights, e)
		p, at, e := Fitted(x.t)
		refused(t, "Fitted", x.e, p.Base, p.Slabs, at, e)
		answers, e := AgreesWith(exampleSky(), x.t)
		refused(t, "AgreesWith", x.e, answers, e)
	}
}

// P4.4

func TestLaminated(t *testing.T) {
	for _, x := range []struct {
		t       api.ProfileTrace
		slabs   []api.Range
		heights []api.Range
	}{
		{traced(300, 100, 100, 500, 125, 125), []api.Range{rangeOf(20, 20)}, []api.Range{rangeOf(100, 100), rangeOf(120, 120)}},
		{exampleTrace(), []api.Range{rangeOf(18, 22)}, []api.Range{rangeOf(99, 101), rangeOf(117, 123)}},
		{withValley(traced(300, 100, 100, 500, 125, 125), 0, 10), []api.Range{rangeOf(10, 20)}, []api.Range{rangeOf(100, 100), rangeOf(110, 130)}},
		{withValley(traced(300, 100, 100, 500, 125, 125), 1, 10), []api.Range{rangeOf(20, 20)}, []api.Range{rangeOf(100, 100), rangeOf(120, 120)}},
		{traced(300, 5, 7), nil, []api.Range{rangeOf(5, 7)}},
		{withValley(traced(300, 5, 7), 0, 500), nil, []api.Range{rangeOf(5, 7)}},
		{traced(300, 100, 100, 500, 100, 100), []api.Range{rangeOf(0, 0)}, []api.Range{rangeOf(100, 100), rangeOf(100, 100)}},
		{traced(300, 100, 100, 500, 0, 100), []api.Range{rangeOf(0, 0)}, []api.Range{rangeOf(100, 100), rangeOf(100, 100)}},
		{traced(300, 100, 200, 500, 0, 100), []api.Range{rangeOf(0, 0)}, []api.Range{rangeOf(100, 200), rangeOf(100, 200)}},
		{traced(300, 100, 100, 500, 101, 101), []api.Range{rangeOf(0, 1)}, []api.Range{rangeOf(100, 100), rangeOf(100, 101)}},
		{traced(300, 0, 0, 3000, 20000, 20000), []api.Range{rangeOf(19880, 19901)}, []api.Range{rangeOf(0, 0), rangeOf(19880, 19901)}},
		{traced(300, 100, 100, 500, 125, 125, 600, 123, 124), []api.Range{rangeOf(20, 20), rangeOf(0, 1)}, []api.Range{rangeOf(100, 100), rangeOf(120, 120), rangeOf(120, 121)}},
		{withValley(traced(300, 100, 100, 500, 125, 125, 600, 180, 180), 1, 10), []api.Range{rangeOf(20, 20), rangeOf(21, 32)}, []api.Range{rangeOf(100, 100), rangeOf(120, 120), rangeOf(141, 162)}},
		{withValley(traced(300, 100, 100, 500, 125, 125, 600, 180, 180), 0, 10), []api.Range{rangeOf(10, 20), rangeOf(25, 38)}, []api.Range{rangeOf(100, 100), rangeOf(110, 130), rangeOf(135, 168)}},
		{withValley(traced(300, 100, 100, 500, 125, 125), 0, 500), []api.Range{rangeOf(0, 20)}, []api.Range{rangeOf(100, 100), rangeOf(100, 620)}},
	} {
		slabs, at, e := Laminated(x.t)
		want(t, "Laminated "+FormatTrace(x.t), results(slabs, at, e), results(x.slabs, 0, api.OK))
		heights, e := HeightsOf(x.t)
		want(t, "HeightsOf "+FormatTrace(x.t), results(heights, e), results(x.heights, api.OK))
	}
}

func TestLaminatedClash(t *testing.T) {
	for _, x := range []struct {
		t  api.ProfileTrace
		at int
	}{
		{traced(300, 100, 100, 500, 90, 95), 1},
		{traced(300, 100, 100, 500, 0, 99), 1},
		{traced(300, 100, 100, 500, 125, 125, 600, 123, 123), 2},
		{traced(300, 100, 100, 500, 109, 109, 619, 0, 108), 2}, // B is -1
		{traced(300, 100, 100, 500, 99, 99, 600, 98, 98), 1},
		{traced(300, 100, 100, 500, 125, 125, 600, 180, 180, 700, 100, 100, 800, 0, 0), 3},
		{withValley(traced(300, 100, 100, 500, 90, 95), 0, 500), 1},
		{traced(1, 20000, 20000, 2, 0, 0, 3, 0, 0, 4, 0, 0), 1},
	} {
		slabs, at, e := Laminated(x.t)
		want(t, "Laminated "+FormatTrace(x.t), results(at, e), results(x.at, api.ErrClash))
		refused(t, "Laminated", api.ErrClash, slabs, e)
		heights, e := HeightsOf(x.t)
		refused(t, "HeightsOf", api.ErrClash, heights, e)
	}
}

func TestLaminatedByDefinition(t *testing.T) {
	clashes, long := 0, 0
	for _, x := range goodTraces() {
		expected, clash := laminatedByDefinition(x)
		slabs, at, e := Laminated(x)
		heights, heightsError := HeightsOf(x)
		if clash > 0 {
			want(t, "Laminated "+FormatTrace(x), results(len(slabs), at, e), results(0, clash, api.ErrClash))
			refused(t, "HeightsOf", api.ErrClash, heights, heightsError)
			clashes++
			continue
		}
		want(t, "Laminated "+FormatTrace(x), results(slabs, at, e), results(expected, 0, api.OK))
		want(t, "HeightsOf "+FormatTrace(x), results(heights, heightsError), results(heightsByDefinition(x, expected), api.OK))
		if len(expected) > 2 {
			long++
		}
	}
	if clashes < 50 || long < 50 {
		t.Errorf("%d traces contradict themselves, %d others have more than two slabs", clashes, long)
	}
}

// wider returns a range with ends that lie as much further apart as next says.
func wider(r api.Range, next func(int) int, most int) api.Range {
	return rangeOf(max(0, r.Lo-next(most)), min(20000, r.Hi+next(most)))
}

func within(n int, r api.Range) bool { return r.Lo <= n && n <= r.Hi }

// P4.8

// enclosed checks that the lamination of a trace contains the thicknesses and the true heights of a profile, of which the slab after the point t.After is a valley if valley is set.
func enclosed(t *testing.T, x api.ProfileTrace, p api.ProfileSky, valley bool) {
	t.Helper()
	slabs, _, e := Laminated(x)
	heights, heightsError := HeightsOf(x)
	if e != api.OK || heightsError != api.OK {
		t.Errorf("%s is not laminated: %d", FormatTrace(x), e)
		return
	}
	height, k := p.Base, 0
	for i, slab := range p.Slabs[:len(p.Slabs)-1] {
		if !(valley && i == x.After+1) {
			if !within(height, heights[k]) || !within(slab.Thickness, slabs[k]) {
				t.Errorf("%s in %s: slab %d, %v, %v", FormatProfile(p), FormatTrace(x), k, slabs, heights)
			}
			k++
		}
		height += slab.Thickness
	}
	if !within(height, heights[k]) {
		t.Errorf("%s in %s: the last point, %v", FormatProfile(p), FormatTrace(x), heights)
	}
}

// changed returns a profile with other thicknesses and another base, by the digits of a number.
func changed(p api.ProfileSky, number int) api.ProfileSky {
	digit := func() int {
		d := number%3 - 1
		number /= 3
		return d
	}
	q := sky(max(0, p.Base+digit()))
	for _, slab := range p.Slabs {
		slab.Thickness = max(0, slab.Thickness+digit())
		q.Slabs = append(q.Slabs, slab)
	}
	return q
}

// agreesSurely tells whether all points agree with a profile with AnswerYes.
func agreesSurely(p api.ProfileSky, x api.ProfileTrace) bool {
	answers, e := AgreesWith(p, x)
	for _, answer := range answers {
		if answer != api.AnswerYes {
			return false
		}
	}
	return e == api.OK
}

func TestAllThicknesses(t *testing.T) {
	checked := 0
	for seed := range 400 {
		next := numbers(seed)
		p, frequencies := risingSky(seed)
		p.Base = min(499, p.Base)
		x, _, e := TraceOf(p, frequencies)
		if e != api.OK {
			continue
		}
		for i := range x.Points {
			x.Points[i].Pixel = wider(x.Points[i].Pixel, next, 1+seed%5)
		}
		enclosed(t, x, p, false)
		for number := range 243 {
			q := changed(p, number)
			if agreesSurely(q, x) {
				enclosed(t, x, q, false)
				checked++
			}
		}
	}
	if checked < 1000 {
		t.Error("profiles that agree:", checked)
	}
}

func TestAllThicknessesWithValley(t *testing.T) {
	checked := 0
	for seed := range 600 {
		next := numbers(seed)
		rising, frequencies := risingSky(seed)
		if len(frequencies) < 2 {
			continue
		}
		after := next(len(frequencies) - 1)
		width := next(60)
		valley := api.ProfileSlab{Square: next(rising.Slabs[after].Square), Thickness: next(width + 1)}
		p := sky(min(499, rising.Base))
		p.Slabs = append(p.Slabs, rising.Slabs[:after+1]...)
		p.Slabs = append(p.Slabs, valley)
		p.Slabs = append(p.Slabs, rising.Slabs[after+1:]...)
		x, _, e := TraceOf(p, frequencies)
		if e != api.OK {
			continue
		}
		for i := range x.Points {
			x.Points[i].Pixel = wider(x.Points[i].Pixel, next, 1+seed%4)
		}
		x = withValley(x, after, width)
		enclosed(t, x, p, true)
		for number := range 243 {
			q := changed(p, number)
			q.Slabs[after+1].Thickness = min(width, q.Slabs[after+1].Thickness)
			if agreesSurely(q, x) {
				enclosed(t, x, q, true)
				checked++
			}
		}
	}
	if checked < 1000 {
		t.Error("profiles that agree:", checked)
	}
}

// P4.9

func TestThereAndBack(t *testing.T) {
	checked := 0
	for seed := range 600 {
		p, frequencies := risingSky(seed)
		x, _, e := TraceOf(p, frequencies)
		if e != api.OK {
			continue
		}
		rises, _ := IsRising(p)
		want(t, "IsRising", rises, true)
		enclosed(t, x, p, false)
		checked++
	}
	if checked < 300 {
		t.Error("traces:", checked)
	}
}

// P4.11

func contains(outer, inner []api.Range) bool {
	for i, r := range inner {
		if !within(r.Lo, outer[i]) || !within(r.Hi, outer[i]) {
			return false
		}
	}
	return len(outer) == len(inner)
}

func TestWiderPixels(t *testing.T) {
	for seed, x := range goodTraces() {
		next := numbers(seed)
		slabs, _, e := Laminated(x)
		if e != api.OK {
			continue
		}
		heights, _ := HeightsOf(x)
		wide := x
		wide.Points = append([]api.ProfilePoint{}, x.Points...)
		if seed%3 > 0 {
			for i := range wide.Points {
				wide.Points[i].Pixel = wider(wide.Points[i].Pixel, next, 5)
			}
		}
		if seed%3 < 2 {
			wide.Width = min(500, wide.Width+next(30))
		}
		widerSlabs, _, e := Laminated(wide)
		widerHeights, _ := HeightsOf(wide)
		if e != api.OK || !contains(widerSlabs, slabs) || !contains(widerHeights, heights) {
			t.Errorf("%s: %v, %v; wider %s: %v, %v, %d", FormatTrace(x), slabs, heights, FormatTrace(wide), widerSlabs, widerHeights, e)
		}
	}
}
