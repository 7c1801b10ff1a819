package profile

import (
	"math/big"
	"testing"

	"skywave/api"
)

// P4.2

func TestIndexAt(t *testing.T) {
	for _, x := range []struct {
		square, frequency int
		index             api.Range
	}{
		{90000, 500, rangeOf(1250, 1250)},
		{100000, 500, rangeOf(1290, 1291)},
		{0, 1, rangeOf(1000, 1000)},
		{0, 3000, rangeOf(1000, 1000)},
		{3, 2, rangeOf(2000, 2000)},
		{2, 2, rangeOf(1414, 1415)},
		{1, 2, rangeOf(1154, 1155)},
		{1, 3000, rangeOf(1000, 1001)},
		{8999999, 3000, rangeOf(3000000, 3000000)},
		{8999998, 3000, rangeOf(2121320, 2121321)},
		{8999996, 3000, rangeOf(1500000, 1500000)},
		{8994001, 3000, rangeOf(38733, 38734)},
		{249999, 500, rangeOf(500000, 500000)},
	} {
		index, e := IndexAt(x.square, x.frequency)
		want(t, "IndexAt", results(x.square, x.frequency, index, e), results(x.square, x.frequency, x.index, api.OK))
	}
}

func TestIndexAtErrors(t *testing.T) {
	for _, n := range outsideOf(0, 9000000) {
		for _, frequency := range []int{1, 3000, 0, 3001} {
			index, e := IndexAt(n, frequency)
			refused(t, "IndexAt a bad square", api.ErrRange, index, e)
		}
	}
	for _, n := range outsideOf(1, 3000) {
		for _, square := range []int{0, 90000, 9000000} {
			index, e := IndexAt(square, n)
			refused(t, "IndexAt a bad frequency", api.ErrRange, index, e)
		}
	}
	for _, x := range [][2]int{{1, 1}, {9000000, 1}, {9000000, 3000}, {250000, 500}, {250001, 500}, {4, 2}} {
		index, e := IndexAt(x[0], x[1])
		refused(t, "IndexAt what is reflected", api.ErrNone, index, e)
	}
}

func TestReflectedAt(t *testing.T) {
	zero := sky(50, 100, 0, 400, 7, 900, 0, 400, 3, 1600, 1)
	for _, x := range []struct {
		p                       api.ProfileSky
		frequency, height, slab int
		e                       api.Errno
	}{
		{exampleSky(), 1, 100, 0, api.OK},
		{exampleSky(), 300, 100, 0, api.OK},
		{exampleSky(), 301, 120, 1, api.OK},
		{exampleSky(), 500, 120, 1, api.OK},
		{exampleSky(), 501, 0, 0, api.ErrOpen},
		{exampleSky(), 3000, 0, 0, api.ErrOpen},
		{zero, 10, 50, 0, api.OK},
		{zero, 11, 50, 1, api.OK},
		{zero, 20, 50, 1, api.OK},
		{zero, 21, 57, 2, api.OK},
		{zero, 30, 57, 2, api.OK},
		{zero, 31, 60, 4, api.OK},
		{zero, 40, 60, 4, api.OK},
		{zero, 41, 0, 0, api.ErrOpen},
		{sky(0, 0, 5), 1, 0, 0, api.ErrOpen},
		{sky(0, 0, 5, 1, 0), 1, 5, 1, api.OK},
		{sky(0, 9000000, 0), 3000, 0, 0, api.OK},
		{sky(7, 8999999, 5), 3000, 0, 0, api.ErrOpen},
		{sky(500, 0, 500, 9000000, 0), 3000, 1000, 1, api.OK},
	} {
		height, slab, e := ReflectedAt(x.p, x.frequency)
		want(t, "ReflectedAt", results(x.frequency, height, slab, e), results(x.frequency, x.height, x.slab, x.e))
	}
}

func TestVirtualAt(t *testing.T) {
	for _, x := range []struct {
		p         api.ProfileSky
		frequency int
		virtual   api.Range
	}{
		{exampleSky(), 1, rangeOf(100, 100)},
		{exampleSky(), 300, rangeOf(100, 100)},
		{exampleSky(), 500, rangeOf(125, 125)},
		{exampleSky(), 301, rangeOf(345, 346)},
		{sky(100, 100000, 10, 250000, 0), 500, rangeOf(112, 113)},
		{sky(100, 100000, 100, 250000, 0), 500, rangeOf(229, 230)},
		{sky(0, 100000, 1, 250000, 0), 500, rangeOf(1, 2)},
		{sky(0, 0, 5, 250000, 0), 500, rangeOf(5, 5)},
		{sky(0, 90000, 1, 100000, 1, 90000, 3, 250000, 0), 500, rangeOf(6, 7)},
		{sky(0, 90000, 0, 250000, 0), 500, rangeOf(0, 0)},
		{sky(0, 1599, 500, 1600, 1), 40, rangeOf(20000, 20000)},
		{sky(500, 8999999, 500, 9000000, 1), 3000, rangeOf(1500500, 1500500)},
	} {
		virtual, e := VirtualAt(x.p, x.frequency)
		want(t, "VirtualAt "+FormatProfile(x.p), results(virtual, e), results(x.virtual, api.OK))
	}
}

func TestHeightErrors(t *testing.T) {
	for _, p := range []api.ProfileSky{exampleSky(), lastSky(), sky(0, 9000000, 0)} {
		for _, n := range outsideOf(1, 3000) {
			height, slab, e := ReflectedAt(p, n)
			refused(t, "ReflectedAt a bad frequency", api.ErrRange, height, slab, e)
			virtual, e := VirtualAt(p, n)
			refused(t, "VirtualAt a bad frequency", api.ErrRange, virtual, e)
		}
	}
	for _, f := range []int{501, 502, 3000} {
		virtual, e := VirtualAt(exampleSky(), f)
		refused(t, "VirtualAt what is not reflected", api.ErrOpen, virtual, e)
	}
}

// By the definitions, in fractions.
func TestVirtualAtByDefinition(t *testing.T) {
	for i, p := range goodSkies() {
		for f := 1 + i%17; f <= 3000; f += 17 {
			lo, hi, height, slab := new(big.Rat), new(big.Rat), p.Base, -1
			for at, s := range p.Slabs {
				if s.Square >= f*f {
					slab = at
					break
				}
				index, e := IndexAt(s.Square, f)
				want(t, "IndexAt", e, api.OK)
				lo.Add(lo, big.NewRat(int64(s.Thickness*index.Lo), 1000))
				hi.Add(hi, big.NewRat(int64(s.Thickness*index.Hi), 1000))
				height += s.Thickness
			}
			virtual, e := VirtualAt(p, f)
			trueHeight, at, reflectedError := ReflectedAt(p, f)
			if slab < 0 {
				refused(t, "VirtualAt", api.ErrOpen, virtual, e)
				refused(t, "ReflectedAt", api.ErrOpen, trueHeight, at, reflectedError)
				continue
			}
			want(t, "ReflectedAt", results(trueHeight, at, reflectedError), results(height, slab, api.OK))
			want(t, "VirtualAt", e, api.OK)
			if !roundedDown(virtual.Lo-p.Base, lo) || !roundedDown(-(virtual.Hi-p.Base), hi.Neg(hi)) {
				t.Errorf("VirtualAt %d of %s: %v", f, FormatProfile(p), virtual)
			}
		}
	}
}

// roundedDown tells whether a number is a fraction rounded down.
func roundedDown(n int, f *big.Rat) bool {
	return big.NewRat(int64(n), 1).Cmp(f) <= 0 && f.Cmp(big.NewRat(int64(n)+1, 1)) < 0
}

func TestTraceOf(t *testing.T) {
	for _, x := range []struct {
		p           api.ProfileSky
		frequencies []int
		trace       api.ProfileTrace
	}{
		{exampleSky(), []int{300, 500}, traced(300, 100, 100, 500, 125, 125)},
		{exampleSky(), []int{500}, traced(500, 125, 125)},
		{exampleSky(), []int{1, 2, 299, 300, 301, 499, 500}, traced(1, 100, 100, 2, 100, 100, 299, 100, 100, 300, 100, 100, 301, 345, 346, 499, 125, 126, 500, 125, 125)},
		{sky(0, 1599, 500, 1600, 1), []int{39, 40}, traced(39, 0, 0, 40, 20000, 20000)},
		{sky(9, 9000000, 0), []int{1, 2, 3, 4, 5, 6, 7, 3000}, traced(1, 9, 9, 2, 9, 9, 3, 9, 9, 4, 9, 9, 5, 9, 9, 6, 9, 9, 7, 9, 9, 3000, 9, 9)},
	} {
		trace, at, e := TraceOf(x.p, x.frequencies)
		want(t, "TraceOf "+FormatProfile(x.p), results(FormatTrace(trace), at, e), results(FormatTrace(x.trace), 0, api.OK))
	}
}

func TestTraceOfErrors(t *testing.T) {
	high := sky(0, 9999, 500, 9000000, 1)
	check := func(p api.ProfileSky, at int, expected api.Errno, frequencies ...int) {
		t.Helper()
		trace, i, e := TraceOf(p, frequencies)
		want(t, "TraceOf", results(i, e), results(at, expected))
		refused(t, "TraceOf", expected, trace.Points, trace.After, trace.Width, e)
	}
	check(exampleSky(), 0, api.ErrShape)
	check(exampleSky(), 0, api.ErrLarge, 1, 2, 3, 4, 5, 6, 7, 8, 9)
	check(exampleSky(), 0, api.ErrLarge, make([]int, 9)...)
	check(exampleSky(), 0, api.ErrLarge, 9, 8, 7, 6, 5, 4, 3, 2, 501)
	for _, n := range outsideOf(1, 3000) {
		check(exampleSky(), 0, api.ErrRange, n)
		check(exampleSky(), 1, api.ErrRange, 300, n)
		check(exampleSky(), 2, api.ErrRange, 300, 301, n, 1)
		check(exampleSky(), 0, api.ErrOpen, 501, n)
	}
	check(exampleSky(), 1, api.ErrOrder, 300, 300)
	check(exampleSky(), 1, api.ErrOrder, 300, 299)
	check(exampleSky(), 2, api.ErrOrder, 299, 300, 300, 501)
	check(exampleSky(), 0, api.ErrOpen, 501)
	check(exampleSky(), 0, api.ErrOpen, 501, 501)
	check(exampleSky(), 1, api.ErrOpen, 300, 501)
	check(exampleSky(), 7, api.ErrOpen, 1, 2, 3, 4, 5, 6, 7, 501)
	check(high, 0, api.ErrBreak, 100)
	check(high, 0, api.ErrBreak, 100, 99)
	check(high, 1, api.ErrBreak, 99, 100, 101)
	check(high, 1, api.ErrOrder, 101, 100)
	check(sky(1, 1599, 500, 1600, 1), 1, api.ErrBreak, 39, 40)
	// The lower end is still 20000.
	virtual, _ := VirtualAt(sky(0, 8988380, 500, 8994001, 1), 2999)
	want(t, "VirtualAt", virtual, rangeOf(20000, 20001))
	check(sky(0, 8988380, 500, 8994001, 1), 0, api.ErrBreak, 2999)
}

func TestTraceOfIsValid(t *testing.T) {
	for seed := range 300 {
		p, frequencies := risingSky(seed)
		trace, at, e := TraceOf(p, frequencies)
		if e == api.ErrBreak {
			virtual, _ := VirtualAt(p, frequencies[at])
			want(t, "whether the virtual height is too great", virtual.Hi > 20000, true)
			continue
		}
		_, checkError := CheckTrace(trace)
		want(t, "CheckTrace of TraceOf", results(len(trace.Points), at, e, checkError), results(len(frequencies), 0, api.OK, api.OK))
		for i, point := range trace.Points {
			virtual, _ := VirtualAt(p, frequencies[i])
			want(t, "points of TraceOf", point, api.ProfilePoint{Frequency: frequencies[i], Pixel: virtual})
		}
	}
}

// P4.7

func TestIndexEncloses(t *testing.T) {
	check := func(square, f int) {
		index, e := IndexAt(square, f)
		rest, all := f*f-square, 1000000*f*f
		// None of the products overflows, as all of them are near 10^6 f f.
		lo, aboveLo := index.Lo*index.Lo*rest <= all, (index.Lo+1)*(index.Lo+1)*rest > all
		hi, belowHi := index.Hi*index.Hi*rest >= all, (index.Hi-1)*(index.Hi-1)*rest < all
		if e != api.OK || !lo || !aboveLo || !hi || !belowHi || index.Hi-index.Lo > 1 || index.Lo < 1000 {
			t.Fatalf("IndexAt %d, %d: %v, %d", square, f, index, e)
		}
	}
	for f := 1; f <= 3000; f++ {
		next := numbers(f)
		for rest := 1; rest <= 20 && rest <= f*f; rest++ {
			check(f*f-rest, f)
		}
		for range 40 {
			check(next(f*f), f)
		}
		check(0, f)
	}
	for f := 1; f <= 60; f++ {
		for square := range f * f {
			check(square, f)
		}
	}
}

func TestHeightsAscend(t *testing.T) {
	for _, p := range goodSkies() {
		last := 0
		for f := 1; f <= 3000; f += 7 {
			height, _, e := ReflectedAt(p, f)
			if e != api.OK {
				break
			}
			virtual, _ := VirtualAt(p, f)
			if virtual.Lo < height || virtual.Hi < virtual.Lo || height < last {
				t.Errorf("%d of %s: virtual %v, true %d after %d", f, FormatProfile(p), virtual, height, last)
			}
			last = height
		}
	}
}

// P4.10

func TestThickerIsHigher(t *testing.T) {
	for seed, p := range goodSkies() {
		next := numbers(seed)
		for f := 1 + next(11); f <= 3000; f += 11 {
			before, e := VirtualAt(p, f)
			if e != api.OK {
				break
			}
			slab := next(len(p.Slabs))
			more := sky(p.Base)
			more.Slabs = append(more.Slabs, p.Slabs...)
			switch next(3) {
			case 0:
				more.Base = min(500, p.Base+next(20))
			case 1:
				more.Slabs[slab].Thickness = min(500, p.Slabs[slab].Thickness+next(20))
			case 2:
				if p.Slabs[slab].Square < f*f {
					more.Slabs[slab].Square += next(f*f - p.Slabs[slab].Square)
				}
			}
			after, e := VirtualAt(more, f)
			if e != api.OK || after.Lo < before.Lo || after.Hi < before.Hi {
				t.Errorf("%d of %s: %v, of %s: %v, %d", f, FormatProfile(p), before, FormatProfile(more), after, e)
			}
		}
	}
}
