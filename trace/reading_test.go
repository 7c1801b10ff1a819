package trace

import (
	"fmt"
	"slices"
	"testing"

	"skywave/api"
)

func ordinary(lo, hi int) api.TraceReading {
	return api.TraceReading{Tag: api.TraceOrdinary, Value: api.Range{Lo: lo, Hi: hi}}
}

func extra(lo, hi int) api.TraceReading {
	return api.TraceReading{Tag: api.TraceExtra, Value: api.Range{Lo: lo, Hi: hi}}
}

// exampleShift is the shift of the chapter's seventh example.
var exampleShift = api.Range{Lo: 60, Hi: 70}

// irregularReadings returns valid readings near each other, and a shift.
func irregularReadings(seed int) ([]api.TraceReading, api.Range) {
	next := numbers(seed)
	var l []api.TraceReading
	for range 1 + seed%12 {
		lo := next(20)
		r := api.TraceReading{Tag: next(2), Value: api.Range{Lo: lo, Hi: lo + next(1+seed%30)}}
		l = append(l, r)
	}
	lo := next(6)
	return l, api.Range{Lo: lo, Hi: lo + next(6)}
}

// agreedByDefinition returns the frequencies that all readings permit.
func agreedByDefinition(l []api.TraceReading, shift api.Range) []int {
	var list []int
	for f := -20; f < 80; f++ {
		permits := func(r api.TraceReading) bool {
			if r.Tag == api.TraceExtra {
				return f >= r.Value.Lo-shift.Hi && f <= r.Value.Hi-shift.Lo
			}
			return f >= r.Value.Lo && f <= r.Value.Hi
		}
		if !slices.ContainsFunc(l, func(r api.TraceReading) bool { return !permits(r) }) {
			list = append(list, f)
		}
	}
	return list
}

// P3.7

func TestAgreedOf(t *testing.T) {
	two := []api.TraceReading{ordinary(500, 520), extra(580, 590)}
	for _, x := range []struct {
		l      []api.TraceReading
		shift  api.Range
		agreed api.Range
		e      api.Errno
	}{
		{two, exampleShift, api.Range{Lo: 510, Hi: 520}, api.OK},
		{[]api.TraceReading{two[1], two[0]}, exampleShift, api.Range{Lo: 510, Hi: 520}, api.OK},
		{append(two, ordinary(530, 540)), exampleShift, api.Range{}, api.ErrClash},
		{two[1:], exampleShift, api.Range{Lo: 510, Hi: 530}, api.OK},
		{two[:1], exampleShift, api.Range{Lo: 500, Hi: 520}, api.OK},
		{[]api.TraceReading{ordinary(5, 7), ordinary(7, 9)}, api.Range{}, api.Range{Lo: 7, Hi: 7}, api.OK},
		{[]api.TraceReading{ordinary(5, 7), ordinary(8, 9)}, api.Range{}, api.Range{}, api.ErrClash},
		{[]api.TraceReading{extra(0, 10)}, api.Range{Lo: 0, Hi: 3000}, api.Range{Lo: -3000, Hi: 10}, api.OK},
		{[]api.TraceReading{extra(0, 0)}, api.Range{Lo: 3000, Hi: 3000}, api.Range{Lo: -3000, Hi: -3000}, api.OK},
		{[]api.TraceReading{extra(0, 10), extra(2, 4)}, api.Range{Lo: 20, Hi: 21}, api.Range{Lo: -19, Hi: -16}, api.OK},
		{[]api.TraceReading{extra(0, 10), ordinary(0, 10)}, api.Range{Lo: 10, Hi: 10}, api.Range{}, api.OK},
		{[]api.TraceReading{extra(0, 10), ordinary(0, 10)}, api.Range{Lo: 11, Hi: 11}, api.Range{}, api.ErrClash},
		{[]api.TraceReading{extra(0, 10), ordinary(2, 3), ordinary(3, 9)}, api.Range{Lo: 6, Hi: 12}, api.Range{Lo: 3, Hi: 3}, api.OK},
		{repeated(12, ordinary(0, 3000)), api.Range{Lo: 3000, Hi: 3000}, api.Range{Lo: 0, Hi: 3000}, api.OK},
	} {
		agreed, e := AgreedOf(x.l, x.shift)
		want(t, fmt.Sprint("AgreedOf ", x.l, x.shift), results(agreed, e), results(x.agreed, x.e))
	}
}

func TestAgreedOfByDefinition(t *testing.T) {
	clashes := 0
	for seed := range 1000 {
		l, shift := irregularReadings(seed)
		agreed, e := AgreedOf(l, shift)
		list := agreedByDefinition(l, shift)
		if len(list) == 0 {
			refused(t, "AgreedOf", api.ErrClash, agreed, e)
			clashes++
			continue
		}
		want(t, "AgreedOf", results(agreed, e), results(api.Range{Lo: list[0], Hi: list[len(list)-1]}, api.OK))
	}
	if clashes < 100 || clashes > 900 {
		t.Error("readings that contradict each other:", clashes)
	}
}

func TestContradicting(t *testing.T) {
	for _, x := range []struct {
		l     []api.TraceReading
		shift api.Range
		set   []int
	}{
		{[]api.TraceReading{ordinary(500, 520), extra(580, 590), ordinary(530, 540)}, exampleShift, []int{0, 2}},
		{[]api.TraceReading{ordinary(5, 5), ordinary(6, 6)}, exampleShift, []int{0, 1}},
		{[]api.TraceReading{ordinary(0, 9), ordinary(6, 6), ordinary(5, 5), ordinary(7, 7)}, exampleShift, []int{1, 2}},
		{[]api.TraceReading{ordinary(0, 6), ordinary(6, 6), ordinary(5, 6), ordinary(7, 7)}, exampleShift, []int{0, 3}},
		{[]api.TraceReading{extra(100, 110), ordinary(40, 49), extra(109, 120), ordinary(50, 50)}, exampleShift, []int{1, 3}},
		{[]api.TraceReading{extra(100, 110), ordinary(51, 60)}, exampleShift, []int{0, 1}},
		{[]api.TraceReading{extra(100, 110), ordinary(20, 29)}, exampleShift, []int{0, 1}},
		{append(repeated(11, ordinary(0, 9)), ordinary(10, 11)), exampleShift, []int{0, 11}},
		{append(repeated(10, ordinary(0, 10)), ordinary(10, 11), ordinary(0, 9)), exampleShift, []int{10, 11}},
	} {
		set, e := Contradicting(x.l, x.shift)
		want(t, fmt.Sprint("Contradicting ", x.l), results(set, e), results(x.set, api.OK))
	}
}

func TestContradictingByDefinition(t *testing.T) {
	for seed := range 600 {
		l, shift := irregularReadings(seed)
		l = l[:min(len(l), 6)]
		var best []int
		for bits := range 1 << len(l) {
			var set []int
			var some []api.TraceReading
			for i, r := range l {
				if bits>>i&1 == 1 {
					set, some = append(set, i), append(some, r)
				}
			}
			smaller := best == nil || len(set) < len(best) || len(set) == len(best) && slices.Compare(set, best) < 0
			if smaller && len(agreedByDefinition(some, shift)) == 0 {
				best = set
			}
		}
		set, e := Contradicting(l, shift)
		if best == nil {
			refused(t, "Contradicting", api.ErrNone, set, e)
			continue
		}
		want(t, "Contradicting", results(set, e), results(best, api.OK))
	}
}

func TestReadingErrors(t *testing.T) {
	check := func(expected api.Errno, shift api.Range, l ...api.TraceReading) {
		t.Helper()
		agreed, e := AgreedOf(l, shift)
		refused(t, fmt.Sprint("AgreedOf ", l, shift), expected, agreed, e)
		set, e := Contradicting(l, shift)
		refused(t, fmt.Sprint("Contradicting ", l, shift), expected, set, e)
	}
	check(api.ErrShape, exampleShift)
	check(api.ErrShape, api.Range{Lo: -1})
	check(api.ErrLarge, exampleShift, repeated(13, ordinary(0, 9))...)
	check(api.ErrLarge, api.Range{Lo: -1}, repeated(13, api.TraceReading{Tag: 9})...)
	for _, tag := range append(outsideOf(0, 1), api.TraceUndecided) {
		check(api.ErrKind, exampleShift, api.TraceReading{Tag: tag})
		check(api.ErrKind, exampleShift, api.TraceReading{Tag: tag, Value: api.Range{Lo: -1, Hi: -2}}, ordinary(-1, 0))
		check(api.ErrKind, api.Range{Lo: -1}, ordinary(0, 9), api.TraceReading{Tag: tag})
	}
	for _, n := range outsideOf(0, 3000) {
		check(api.ErrRange, exampleShift, ordinary(n, 3000))
		check(api.ErrRange, exampleShift, ordinary(0, n))
		check(api.ErrRange, exampleShift, extra(n, 0), api.TraceReading{Tag: 2})
		check(api.ErrRange, api.Range{Lo: 2, Hi: 1}, ordinary(0, 9), extra(9, n))
		check(api.ErrRange, api.Range{Lo: n, Hi: 3000}, ordinary(0, 9))
		check(api.ErrRange, api.Range{Lo: 0, Hi: n}, ordinary(0, 9), ordinary(10, 11))
		check(api.ErrRange, api.Range{Lo: n, Hi: 0}, extra(0, 9))
	}
	check(api.ErrOrder, exampleShift, ordinary(1, 0))
	check(api.ErrOrder, exampleShift, ordinary(0, 9), extra(3000, 2999), ordinary(-1, 0))
	check(api.ErrOrder, api.Range{Lo: -1}, extra(1, 0))
	check(api.ErrOrder, api.Range{Lo: 1, Hi: 0}, ordinary(0, 9))
	check(api.ErrOrder, api.Range{Lo: 3000, Hi: 2999}, extra(5, 5), ordinary(6, 6))
	for _, l := range [][]api.TraceReading{{ordinary(0, 0)}, {extra(3000, 3000)}, repeated(12, extra(0, 3000)), {ordinary(500, 520), extra(580, 590)}} {
		set, e := Contradicting(l, exampleShift)
		refused(t, "Contradicting readings that agree", api.ErrNone, set, e)
	}
}

// P3.13

func TestTwoReadings(t *testing.T) {
	for seed := range 600 {
		l, shift := irregularReadings(seed)
		set, e := Contradicting(l, shift)
		_, agreedError := AgreedOf(l, shift)
		want(t, "whether both say the same", e == api.OK, agreedError == api.ErrClash)
		if e == api.OK {
			want(t, "number of contradicting readings", len(set), 2)
			_, e := AgreedOf([]api.TraceReading{l[set[0]], l[set[1]]}, shift)
			want(t, "AgreedOf the set", e, api.ErrClash)
		}
		for n := 1; n < len(l); n++ {
			fewer, e := AgreedOf(l[:n], shift)
			more, moreError := AgreedOf(l[:n+1], shift)
			if moreError == api.OK && (e != api.OK || more.Lo < fewer.Lo || more.Hi > fewer.Hi) {
				t.Errorf("%v is not within %v (%v)", more, fewer, e)
			}
		}
	}
}
