package chart

import (
	"fmt"
	"math/big"
	"slices"
	"testing"

	"skywave/api"
)

// weightsByDefinition returns the weights of stations at a place.
func weightsByDefinition(l []api.ChartStation, at api.ChartPlace) []*big.Rat {
	weights := make([]*big.Rat, len(l))
	age, decides := 10, -1
	for i, s := range l {
		weights[i] = ratio(0, 1)
		if s.At == at && s.Age < age {
			age, decides = s.Age, i
		}
	}
	if decides >= 0 {
		weights[decides] = ratio(1, 1)
		return weights
	}
	sum := ratio(0, 1)
	for i, s := range l {
		x, y := s.At.X-at.X, s.At.Y-at.Y
		weights[i] = ratio(10-s.Age, x*x+y*y)
		sum.Add(sum, weights[i])
	}
	for i := range l {
		weights[i].Quo(weights[i], sum)
	}
	return weights
}

func valueByDefinition(l []api.ChartStation, at api.ChartPlace) (lo, hi *big.Rat) {
	lo, hi = ratio(0, 1), ratio(0, 1)
	for i, weight := range weightsByDefinition(l, at) {
		lo.Add(lo, new(big.Rat).Mul(weight, ratio(l[i].Value.Lo, 1)))
		hi.Add(hi, new(big.Rat).Mul(weight, ratio(l[i].Value.Hi, 1)))
	}
	return lo, hi
}

// differenceByDefinition returns the error of a left out station.
func differenceByDefinition(l []api.ChartStation, i int) (lo, hi *big.Rat) {
	var others []api.ChartStation
	for j, s := range l {
		if j != i {
			others = append(others, s)
		}
	}
	lo, hi = valueByDefinition(others, l[i].At)
	return lo.Sub(lo, ratio(l[i].Value.Hi, 1)), hi.Sub(hi, ratio(l[i].Value.Lo, 1))
}

// manyPlaces are places at and between stations.
func manyPlaces(l []api.ChartStation, seed int) []api.ChartPlace {
	next := numbers(seed + 100)
	list := places(0, 0, 30, 30, 0, 30, 30, 0, 29, 30)
	for _, s := range l {
		list = append(list, s.At)
	}
	for range 12 {
		list = append(list, place(next(31), next(31)), place(next(7), next(7)))
	}
	return list
}

// P6.2

func TestWeightsOf(t *testing.T) {
	l := exampleStations()
	same := []api.ChartStation{station("a", 5, 5, 1, 2, 9), station("b", 5, 5, 3, 4, 3), station("c", 5, 5, 5, 6, 3), station("d", 6, 5, 7, 8, 9)}
	for _, x := range []struct {
		l       []api.ChartStation
		at      api.ChartPlace
		weights []api.Frac
	}{
		{l, place(1, 0), []api.Frac{part(8, 9), part(1, 9)}},
		{l, place(0, 0), []api.Frac{part(1, 1), part(0, 1)}},
		{l, place(3, 0), []api.Frac{part(0, 1), part(1, 1)}},
		{l, place(0, 3), []api.Frac{part(4, 5), part(1, 5)}},
		{l[1:], place(30, 30), []api.Frac{part(1, 1)}},
		{same, place(5, 5), []api.Frac{part(0, 1), part(1, 1), part(0, 1), part(0, 1)}},
		{same, place(7, 5), []api.Frac{part(1, 19), part(7, 19), part(7, 19), part(4, 19)}},
		{same[:1], place(5, 5), []api.Frac{part(1, 1)}},
		{[]api.ChartStation{same[0], same[3]}, place(5, 6), []api.Frac{part(2, 3), part(1, 3)}},
	} {
		weights, e := WeightsOf(x.l, x.at)
		want(t, fmt.Sprint("WeightsOf at ", x.at), results(weights, e), results(x.weights, api.OK))
	}
}

func TestWeightsByDefinition(t *testing.T) {
	large := 0
	for seed, l := range goodStations() {
		for _, at := range manyPlaces(l, seed) {
			expected := weightsByDefinition(l, at)
			weights, e := WeightsOf(l, at)
			if isTooLarge(expected...) {
				large++
				refused(t, fmt.Sprint("WeightsOf ", l, at), api.ErrLarge, weights, e)
				continue
			}
			want(t, "the error and the number of weights", results(len(weights), e), results(len(l), api.OK))
			for i, weight := range weights {
				if !isSame(weight, expected[i]) {
					t.Errorf("WeightsOf %v at %v: %v, want %v", l, at, weights, expected)
				}
			}
		}
	}
	if large < 10 {
		t.Errorf("only %d weights were too large", large)
	}
}

func TestValueAt(t *testing.T) {
	l := exampleStations()
	below := []api.ChartStation{station("a", 0, 0, -7, -2, 4), station("b", 2, 0, -4, 9, 4)}
	for _, x := range []struct {
		l     []api.ChartStation
		at    api.ChartPlace
		value api.Span
	}{
		{l, place(1, 0), api.Span{Lo: part(40, 3), Hi: part(41, 3)}},
		{l, place(0, 0), api.Span{Lo: part(10, 1), Hi: part(10, 1)}},
		{l, place(3, 0), api.Span{Lo: part(40, 1), Hi: part(43, 1)}},
		{l[1:], place(7, 20), api.Span{Lo: part(40, 1), Hi: part(43, 1)}},
		{below, place(1, 0), api.Span{Lo: part(-11, 2), Hi: part(7, 2)}},
		{below, place(1, 9), api.Span{Lo: part(-11, 2), Hi: part(7, 2)}},
	} {
		value, e := ValueAt(x.l, x.at)
		want(t, fmt.Sprint("ValueAt ", x.at), results(value, e), results(x.value, api.OK))
	}
}

func TestValueByDefinition(t *testing.T) {
	large := 0
	for seed, l := range goodStations() {
		for _, at := range manyPlaces(l, seed) {
			lo, hi := valueByDefinition(l, at)
			value, e := ValueAt(l, at)
			if isTooLarge(lo, hi) {
				large++
				refused(t, fmt.Sprint("ValueAt ", l, at), api.ErrLarge, value, e)
				continue
			}
			if e != api.OK || !isSame(value.Lo, lo) || !isSame(value.Hi, hi) {
				t.Errorf("ValueAt %v at %v: %v and %v, want %v to %v", l, at, value, e, lo, hi)
			}
		}
	}
	if large < 10 {
		t.Errorf("only %d values were too large", large)
	}
}

// apartStations are stations with weights at a place that have no common factors there, even without the first one.
func apartStations() ([]api.ChartStation, api.ChartPlace) {
	return []api.ChartStation{
		station("a", 0, 15, 7, 7, 4), station("b", 20, 2, 7, 7, 2), station("c", 15, 19, 7, 7, 7), station("d", 21, 11, 7, 7, 4), station("e", 29, 7, 7, 7, 8),
	}, place(2, 25)
}

// Weights may be too large where the value is not, and one end of a value alone may be too large.
func TestLargeParts(t *testing.T) {
	l, at := apartStations()
	weights, e := WeightsOf(l, at)
	refused(t, "WeightsOf", api.ErrLarge, weights, e)
	value, e := ValueAt(l, at)
	want(t, "ValueAt", results(value, e), results(api.Span{Lo: part(7, 1), Hi: part(7, 1)}, api.OK))
	for _, r := range []api.Range{rangeOf(6, 7), rangeOf(7, 8)} {
		l[2].Value = r
		value, e = ValueAt(l, at)
		refused(t, "ValueAt", api.ErrLarge, value, e)
		list, e := LeftOut(append(slices.Clone(l[1:]), station("f", at.X, at.Y, 7, 7, 0)))
		refused(t, "LeftOut", api.ErrLarge, list, e)
	}
}

// A part is too large if it exceeds the limit, not if it reaches it.
func TestLargestParts(t *testing.T) {
	for _, x := range []struct {
		num, den int
		large    bool
	}{
		{1000000000, 999999999, false},
		{-1000000000, 999999999, false},
		{999999999, 1000000000, false},
		{-999999999, 1000000000, false},
		{1000000001, 1000000000, true},
		{-1000000001, 1000000000, true},
		{1000000000, 1000000001, true},
		{1, 1000000001, true},
		{0, 1, false},
	} {
		want(t, "isLarge", isLarge(part(x.num, x.den)), x.large)
	}
}

func TestIsKnown(t *testing.T) {
	l := exampleStations()
	for _, x := range []struct {
		at    api.ChartPlace
		reach int
		known bool
	}{
		{place(2, 0), 4, true},
		{place(0, 2), 4, true},
		{place(0, 2), 3, false},
		{place(1, 2), 4, false},
		{place(1, 2), 5, true},
		{place(0, 0), 0, true},
		{place(3, 0), 0, true},
		{place(1, 0), 0, false},
		{place(1, 0), 1, true},
		{place(30, 30), 2000, true},
		{place(30, 30), 1629, true},
		{place(30, 30), 1628, false},
	} {
		known, e := IsKnown(l, x.at, x.reach)
		want(t, fmt.Sprint("IsKnown ", x.at, x.reach), results(known, e), results(x.known, api.OK))
	}
}

// P6.4

func TestLeftOut(t *testing.T) {
	a, b := exampleStations()[0], exampleStations()[1]
	c := station("c", 0, 0, 4, 5, 3)
	for _, x := range []struct {
		l    []api.ChartStation
		list []api.Span
	}{
		{exampleStations(), []api.Span{{Lo: part(30, 1), Hi: part(33, 1)}, {Lo: part(-33, 1), Hi: part(-30, 1)}}},
		{[]api.ChartStation{a, c}, []api.Span{{Lo: part(-6, 1), Hi: part(-5, 1)}, {Lo: part(5, 1), Hi: part(6, 1)}}},
		{[]api.ChartStation{a, b, c}, []api.Span{
			{Lo: part(-6, 1), Hi: part(-5, 1)},
			{Lo: part(128-43*17, 17), Hi: part(135-40*17, 17)},
			{Lo: part(5, 1), Hi: part(6, 1)},
		}},
	} {
		list, e := LeftOut(x.l)
		want(t, "LeftOut", results(list, e), results(x.list, api.OK))
	}
}

func TestLeftOutByDefinition(t *testing.T) {
	large := 0
	for _, l := range goodStations() {
		if len(l) == 1 {
			continue
		}
		var ends []*big.Rat
		for i := range l {
			lo, hi := differenceByDefinition(l, i)
			ends = append(ends, lo, hi)
		}
		list, e := LeftOut(l)
		if isTooLarge(ends...) {
			large++
			refused(t, fmt.Sprint("LeftOut ", l), api.ErrLarge, list, e)
			continue
		}
		want(t, "the error and the number of spans", results(len(list), e), results(len(l), api.OK))
		for i, x := range list {
			if !isSame(x.Lo, ends[2*i]) || !isSame(x.Hi, ends[2*i+1]) {
				t.Errorf("LeftOut %v: %v, want %v", l, list, ends)
			}
		}
	}
	if large < 10 {
		t.Errorf("only %d errors were too large", large)
	}
}

func TestWorstOf(t *testing.T) {
	for _, x := range []struct {
		l    []api.ChartStation
		name string
	}{
		{exampleStations(), "a"},
		{[]api.ChartStation{exampleStations()[1], exampleStations()[0]}, "b"},
		{[]api.ChartStation{station("a", 0, 0, 1, 9, 0), station("b", 1, 0, 5, 5, 0)}, "a"},
		{[]api.ChartStation{station("a", 0, 0, 10, 10, 0), station("b", 1, 0, 10, 10, 0), station("c", 2, 0, 0, 0, 0), station("d", 3, 0, 10, 10, 0)}, "c"},
		{[]api.ChartStation{station("a", 0, 0, 10, 10, 0), station("b", 1, 0, 10, 10, 0), station("c", 2, 0, 20, 20, 0), station("d", 3, 0, 10, 10, 0)}, "c"},
		{[]api.ChartStation{station("a", 0, 0, 0, 20, 0), station("b", 1, 0, 10, 10, 0), station("c", 2, 0, 9, 11, 0), station("d", 3, 0, 12, 12, 0)}, "d"},
		{[]api.ChartStation{station("a", 0, 0, 10, 10, 0), station("b", 9, 0, 11, 11, 0), station("c", 0, 0, 10, 10, 0)}, "b"},
		{[]api.ChartStation{station("a", 0, 0, 10, 10, 0), station("b", 9, 0, 9, 9, 0), station("c", 0, 0, 10, 10, 0)}, "b"},
		{[]api.ChartStation{station("a", 0, 0, 10, 10, 0), station("b", 9, 0, 10, 10, 0), station("c", 0, 0, 10, 10, 0)}, "a"},
	} {
		name, e := WorstOf(x.l)
		want(t, "WorstOf", results(name, e), results(x.name, api.OK))
	}
}

func TestWorstByDefinition(t *testing.T) {
	for seed := range 2000 {
		l := irregularStations(seed)
		if seed < len(goodStations()) {
			l = goodStations()[seed]
		}
		if len(l) == 1 {
			continue
		}
		worst, most := 0, ratio(0, 1)
		for i := range l {
			lo, hi := differenceByDefinition(l, i)
			distance := ratio(0, 1)
			if lo.Sign() > 0 {
				distance = lo
			} else if hi.Sign() < 0 {
				distance = hi.Neg(hi)
			}
			if distance.Cmp(most) > 0 {
				worst, most = i, distance
			}
		}
		name, e := WorstOf(l)
		want(t, fmt.Sprint("WorstOf ", l), results(name, e), results(l[worst].Name, api.OK))
	}
}

func TestOneStationLeftOut(t *testing.T) {
	for _, s := range lastStations() {
		list, e := LeftOut([]api.ChartStation{s})
		refused(t, "LeftOut", api.ErrShape, list, e)
		name, e := WorstOf([]api.ChartStation{s})
		refused(t, "WorstOf", api.ErrShape, name, e)
	}
}

// P6.9

func TestWeightsAddUp(t *testing.T) {
	for seed, l := range goodStations() {
		for _, at := range manyPlaces(l, seed) {
			weights, e := WeightsOf(l, at)
			if e != api.OK {
				continue
			}
			sum := ratio(0, 1)
			for _, weight := range weights {
				if weight.Num < 0 || weight.Num > weight.Den {
					t.Errorf("a weight is not from 0 to 1: %v", weights)
				}
				sum.Add(sum, ratio(weight.Num, weight.Den))
			}
			want(t, "the sum of weights", sum, ratio(1, 1))
		}
	}
}

func TestValueIsOwn(t *testing.T) {
	for _, l := range goodStations() {
		for i, s := range l {
			isOther := func(o api.ChartStation) bool { return o.At == s.At && o.Age <= s.Age }
			isYounger := func(o api.ChartStation) bool { return o.At == s.At && o.Age < s.Age }
			if slices.ContainsFunc(l[:i], isOther) || slices.ContainsFunc(l[i:], isYounger) {
				continue
			}
			value, e := ValueAt(l, s.At)
			own := api.Span{Lo: part(s.Value.Lo, 1), Hi: part(s.Value.Hi, 1)}
			want(t, "the value at a station", results(value, e), results(own, api.OK))
		}
	}
}

func TestValueLiesBetween(t *testing.T) {
	for seed, l := range goodStations() {
		lo, hi := l[0].Value.Lo, l[0].Value.Hi
		for _, s := range l {
			lo, hi = min(lo, s.Value.Lo), max(hi, s.Value.Hi)
		}
		for _, at := range manyPlaces(l, seed) {
			value, e := ValueAt(l, at)
			if e != api.OK {
				continue
			}
			if value.Lo.Num < lo*value.Lo.Den || value.Hi.Num > hi*value.Hi.Den || value.Lo.Num*value.Hi.Den > value.Hi.Num*value.Lo.Den {
				t.Errorf("the value %v of %v at %v does not lie from %d to %d", value, l, at, lo, hi)
			}
		}
	}
}

// P6.10

func TestValueInAnyOrder(t *testing.T) {
	for seed, l := range goodStations() {
		next := numbers(seed)
		other := slices.Clone(l)
		for i := range other {
			j := i + next(len(other)-i)
			other[i], other[j] = other[j], other[i]
		}
		for _, at := range manyPlaces(nil, seed) {
			isHere := func(s api.ChartStation) bool { return s.At == at }
			if slices.ContainsFunc(l, isHere) {
				continue
			}
			first, e := ValueAt(l, at)
			second, o := ValueAt(other, at)
			want(t, "the value in another order", results(second, o), results(first, e))
		}
	}
}

func TestValueIsTheSame(t *testing.T) {
	for seed, l := range goodStations() {
		for i := range l {
			l[i].Value = l[0].Value
		}
		same := api.Span{Lo: part(l[0].Value.Lo, 1), Hi: part(l[0].Value.Hi, 1)}
		for _, at := range manyPlaces(l, seed) {
			value, e := ValueAt(l, at)
			want(t, "the value of all", results(value, e), results(same, api.OK))
		}
	}
}

// P6.11

func TestGreaterReach(t *testing.T) {
	for seed, l := range goodStations()[:40] {
		for _, at := range manyPlaces(l, seed) {
			square := 2000
			for _, s := range l {
				x, y := s.At.X-at.X, s.At.Y-at.Y
				square = min(square, x*x+y*y)
			}
			for _, reach := range []int{0, square / 2, square - 1, square, square + 1, 2 * square, 2000} {
				if reach < 0 || reach > 2000 {
					continue
				}
				known, e := IsKnown(l, at, reach)
				want(t, fmt.Sprint("IsKnown ", l, at, reach), results(known, e), results(reach >= square, api.OK))
			}
		}
	}
}

func TestStationsAreKnown(t *testing.T) {
	for _, l := range goodStations() {
		for _, s := range l {
			for _, reach := range []int{0, 1, 2000} {
				known, e := IsKnown(l, s.At, reach)
				want(t, "IsKnown at a station", results(known, e), results(true, api.OK))
			}
		}
	}
}
