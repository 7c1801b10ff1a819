package echo

import (
	"math"
	"testing"

	"skywave/api"
)

// exampleRules are the rules of the chapter's seventh example.
var exampleRules = api.EchoRules{Modes: opposite, Ratio: 4, Noise: 1, Power: 10, Cell: 15, Start: 100, Doubt: 20}

// rulesToTry are valid rules, with the ends of all ranges.
func rulesToTry() []api.EchoRules {
	list := []api.EchoRules{
		exampleRules,
		{Modes: farthest, Ratio: 1, Noise: 0, Power: 1, Cell: 1, Start: -1000000, Doubt: 0},
		{Modes: farthest, Ratio: 100, Noise: 1000000000, Power: 1000000000, Cell: 1000, Start: 1000000, Doubt: 1000000},
	}
	for i, m := range modesToTry() {
		list = append(list, api.EchoRules{Modes: m, Ratio: 1 + i%5, Noise: i * i * i * 100, Power: 1 + i*1000, Cell: 1 + i, Start: -i, Doubt: i})
	}
	return list
}

// refusedRules are rules, and the error with which they are refused.
type refusedRules struct {
	r api.EchoRules
	e api.Errno
}

// badRules are rules that are refused, each with its error.
func badRules() []refusedRules {
	var list []refusedRules
	for _, x := range badModes() {
		list = append(list, refusedRules{api.EchoRules{Modes: x.m}, x.e})
	}
	add := func(place *int, least, most int, r *api.EchoRules) {
		old := *place
		for _, n := range outsideOf(least, most) {
			*place = n
			list = append(list, refusedRules{*r, api.ErrRange})
		}
		*place = old
	}
	r := exampleRules
	add(&r.Ratio, 1, 100, &r)
	add(&r.Noise, 0, 1000000000, &r)
	add(&r.Power, 1, 1000000000, &r)
	add(&r.Cell, 1, 1000, &r)
	add(&r.Start, -1000000, 1000000, &r)
	add(&r.Doubt, 0, 1000000, &r)
	return list
}

// P2.5

func TestCheckRules(t *testing.T) {
	for _, r := range rulesToTry() {
		want(t, "CheckRules", CheckRules(r), api.OK)
	}
	for _, x := range badRules() {
		refused(t, "CheckRules", x.e, CheckRules(x.r))
	}
}

func TestTagOf(t *testing.T) {
	for _, x := range []struct {
		x   [2]api.Gauss
		tag int
	}{
		{[2]api.Gauss{{Re: 3, Im: 1}, {Re: 1, Im: 1}}, api.EchoUndecided},
		{[2]api.Gauss{re(2), im(2)}, api.EchoOrdinary},
		{[2]api.Gauss{re(2), im(-2)}, api.EchoExtra},
		{[2]api.Gauss{re(1), {}}, api.EchoNeither},
		{[2]api.Gauss{}, api.EchoNeither},
	} {
		tag, e := TagOf(exampleRules, x.x)
		want(t, "TagOf", results(tag, e), results(x.tag, api.OK))
	}
}

func TestTagOfBorders(t *testing.T) {
	for _, x := range []struct {
		o, e         api.Gauss
		ratio, noise int
		tag          int
	}{
		{re(1), im(1), 4, 1, api.EchoNeither},
		{re(1), api.Gauss{}, 4, 1, api.EchoNeither},
		{api.Gauss{}, re(1), 4, 1, api.EchoNeither},
		{re(1), api.Gauss{}, 4, 0, api.EchoOrdinary},
		{api.Gauss{}, re(1), 4, 0, api.EchoExtra},
		{re(2), re(1), 4, 1, api.EchoOrdinary},
		{re(1), re(2), 4, 1, api.EchoExtra},
		{re(2), re(1), 5, 1, api.EchoUndecided},
		{re(1), re(2), 5, 1, api.EchoUndecided},
		{re(2), im(2), 1, 1, api.EchoOrdinary},
		{re(2), im(2), 2, 1, api.EchoUndecided},
		{re(2), api.Gauss{Re: 2, Im: 1}, 1, 1, api.EchoExtra},
		{re(2), re(2), 1, 4, api.EchoNeither},
		{re(3), re(2), 2, 4, api.EchoOrdinary},
		{re(2), re(3), 2, 4, api.EchoExtra},
		{re(3), re(2), 3, 4, api.EchoUndecided},
		{api.Gauss{Re: 7, Im: 1}, re(5), 2, 49, api.EchoOrdinary},
		{re(5), api.Gauss{Re: 7, Im: 1}, 2, 50, api.EchoNeither},
		{re(100), re(10), 100, 1, api.EchoOrdinary},
		{re(10), re(100), 100, 1, api.EchoExtra},
		{re(999), re(100), 100, 1, api.EchoUndecided},
	} {
		r := exampleRules
		r.Ratio, r.Noise = x.ratio, x.noise
		mixed, e := Mixed(r.Modes, [2]api.Gauss{x.o, x.e})
		want(t, "error of Mixed", e, api.OK)
		tag, e := TagOf(r, mixed)
		want(t, "TagOf", results(tag, e), results(x.tag, api.OK))
	}
}

// Halves: the powers are quarters, and the comparison with the noise is exact.
func TestTagOfFractions(t *testing.T) {
	r := exampleRules
	for _, x := range []struct {
		x     [2]api.Gauss
		noise int
		tag   int
	}{
		{[2]api.Gauss{re(3), re(0)}, 2, api.EchoUndecided}, // 9/4 both
		{[2]api.Gauss{re(3), re(0)}, 3, api.EchoNeither},
		{[2]api.Gauss{re(4), im(-1)}, 2, api.EchoUndecided}, // 9/4 and 25/4
		{[2]api.Gauss{re(4), im(-1)}, 6, api.EchoUndecided},
		{[2]api.Gauss{re(4), im(-1)}, 7, api.EchoNeither},
		{[2]api.Gauss{re(4), im(-2)}, 8, api.EchoExtra}, // 1 and 9
		{[2]api.Gauss{re(4), im(2)}, 8, api.EchoOrdinary},
		{[2]api.Gauss{re(4), im(2)}, 9, api.EchoNeither},
	} {
		r.Noise = x.noise
		tag, e := TagOf(r, x.x)
		want(t, "TagOf", results(tag, e), results(x.tag, api.OK))
	}
}

func TestTagOfByDefinition(t *testing.T) {
	seen := map[int]int{}
	for _, r := range rulesToTry() {
		for _, x := range pairsToTry() {
			expected := tagByDefinition(r, x)
			seen[expected]++
			tag, e := TagOf(r, x)
			want(t, "TagOf", results(tag, e), results(expected, api.OK))
		}
	}
	want(t, "number of tags that were found", len(seen), api.EchoTags)
}

// tagByDefinition solves for the parts by Cramer's rule: they are numerators over the difference of the weights, and powers are compared times the square of its size.
func tagByDefinition(r api.EchoRules, x [2]api.Gauss) int {
	minus := func(a, b api.Gauss) api.Gauss { return plus(a, times(b, re(-1))) }
	power := func(g api.Gauss) int { return g.Re*g.Re + g.Im*g.Im }
	o := power(minus(x[1], times(r.Modes.Extra, x[0])))
	e := power(minus(times(r.Modes.Ordinary, x[0]), x[1]))
	noise := r.Noise * power(minus(r.Modes.Ordinary, r.Modes.Extra))
	if o <= noise && e <= noise {
		return api.EchoNeither
	}
	if o > noise && o >= r.Ratio*e {
		return api.EchoOrdinary
	}
	if e > noise && e >= r.Ratio*o {
		return api.EchoExtra
	}
	return api.EchoUndecided
}

func TestTagOfErrors(t *testing.T) {
	for _, x := range badRules() {
		tag, e := TagOf(x.r, [2]api.Gauss{re(10001), {}})
		refused(t, "TagOf with bad rules", x.e, tag, e)
	}
	for _, x := range badPairs() {
		tag, e := TagOf(exampleRules, x)
		refused(t, "TagOf a bad sample", api.ErrRange, tag, e)
	}
}

func TestHeightsOf(t *testing.T) {
	rules := rulesToTry()
	for _, x := range []struct {
		r       api.EchoRules
		lag     int
		heights api.Range
	}{
		{exampleRules, 10, api.Range{Lo: 230, Hi: 270}},
		{exampleRules, 0, api.Range{Lo: 80, Hi: 120}},
		{exampleRules, 1000000, api.Range{Lo: 15000080, Hi: 15000120}},
		{rules[1], 0, api.Range{Lo: -1000000, Hi: -1000000}},
		{rules[1], 1000000, api.Range{}},
		{rules[2], 0, api.Range{Lo: 0, Hi: 2000000}},
		{rules[2], 1000000, api.Range{Lo: 1000000000, Hi: 1002000000}},
		{api.EchoRules{Modes: opposite, Ratio: 1, Power: 1, Cell: 3, Start: -7, Doubt: 5}, 2, api.Range{Lo: -6, Hi: 4}},
	} {
		heights, e := HeightsOf(x.r, x.lag)
		want(t, "HeightsOf", results(heights, e), results(x.heights, api.OK))
	}
}

func TestHeightsOfErrors(t *testing.T) {
	for _, x := range badRules() {
		heights, e := HeightsOf(x.r, -1)
		refused(t, "HeightsOf with bad rules", x.e, heights, e)
	}
	for _, lag := range outsideOf(0, 1000000) {
		heights, e := HeightsOf(exampleRules, lag)
		refused(t, "HeightsOf a lag", api.ErrRange, heights, e)
	}
}

// frameOf returns a frame whose first antenna has whole samples, and whose second one has none.
func frameOf(first ...int) api.EchoFrame {
	f := api.EchoFrame{Second: make([]api.Gauss, len(first))}
	for _, n := range first {
		f.First = append(f.First, re(n))
	}
	return f
}

func TestEchoesOf(t *testing.T) {
	f := api.EchoFrame{First: []api.Gauss{{}, re(2), {}, {Re: 3, Im: 1}}, Second: []api.Gauss{{}, im(2), {}, {Re: 1, Im: 1}}}
	l, e := EchoesOf(exampleRules, f)
	want(t, "EchoesOf", results(l, e), results([]api.EchoItem{{Lag: 3, Power: 12, Tag: api.EchoUndecided, Heights: api.Range{Lo: 125, Hi: 165}}}, api.OK))
	r := exampleRules
	r.Power = 8
	l, e = EchoesOf(r, f)
	want(t, "EchoesOf with less power", results(l, e), results([]api.EchoItem{
		{Lag: 1, Power: 8, Tag: api.EchoOrdinary, Heights: api.Range{Lo: 95, Hi: 135}},
		{Lag: 3, Power: 12, Tag: api.EchoUndecided, Heights: api.Range{Lo: 125, Hi: 165}},
	}, api.OK))
}

func TestEchoesOfLags(t *testing.T) {
	for _, x := range []struct {
		power int
		f     api.EchoFrame
		lags  []int
	}{
		{1, frameOf(), nil},
		{1, frameOf(0), nil},
		{1, frameOf(1), []int{0}},
		{2, frameOf(1), nil},
		{1, frameOf(0, 0, 0), nil},
		{1, frameOf(1, 1, 1), []int{0}},
		{1, frameOf(1, 2, 3), []int{2}},
		{1, frameOf(3, 2, 1), []int{0}},
		{1, frameOf(1, 2, 2, 1), []int{1}},
		{1, frameOf(2, -2), []int{0}},
		{1, frameOf(2, 2, 3), []int{0, 2}},
		{1, frameOf(1, 0, 1, 0, 1), []int{0, 2, 4}},
		{4, frameOf(1, 0, 2, 0, 3), []int{2, 4}},
		{9, frameOf(1, 0, 2, 0, 3), []int{4}},
		{10, frameOf(1, 0, 2, 0, 3), nil},
	} {
		r := exampleRules
		r.Power = x.power
		l, e := EchoesOf(r, x.f)
		var lags []int
		for _, item := range l {
			lags = append(lags, item.Lag)
		}
		want(t, "lags of EchoesOf", results(lags, e), results(x.lags, api.OK))
	}
}

func TestEchoesOfByDefinition(t *testing.T) {
	for seed, r := range rulesToTry() {
		for count := 0; count <= 64; count += 4 {
			size := []int{2, 30, 10000}[seed%3]
			f := api.EchoFrame{First: sampleList(seed, count, size), Second: sampleList(seed+1, count, size)}
			l, e := EchoesOf(r, f)
			want(t, "EchoesOf", results(l, e), results(echoesByDefinition(r, f), api.OK))
		}
	}
}

func echoesByDefinition(r api.EchoRules, f api.EchoFrame) []api.EchoItem {
	powers := []int{0}
	for i := range f.First {
		a, b := f.First[i], f.Second[i]
		powers = append(powers, a.Re*a.Re+a.Im*a.Im+b.Re*b.Re+b.Im*b.Im)
	}
	powers = append(powers, 0)
	var list []api.EchoItem
	for lag := range f.First {
		before, here, after := powers[lag], powers[lag+1], powers[lag+2]
		if here >= r.Power && here > before && here >= after {
			tag := tagByDefinition(r, [2]api.Gauss{f.First[lag], f.Second[lag]})
			height := r.Start + r.Cell*lag
			list = append(list, api.EchoItem{Lag: lag, Power: here, Tag: tag, Heights: api.Range{Lo: height - r.Doubt, Hi: height + r.Doubt}})
		}
	}
	return list
}

func TestEchoesOfErrors(t *testing.T) {
	for _, x := range badRules() {
		l, e := EchoesOf(x.r, api.EchoFrame{First: []api.Gauss{re(10001)}})
		refused(t, "EchoesOf with bad rules", x.e, l, e)
	}
	for _, f := range []api.EchoFrame{
		{First: []api.Gauss{re(10001)}},
		{Second: []api.Gauss{re(10001)}},
		{First: repeated(65, re(1)), Second: repeated(64, re(1))},
	} {
		l, e := EchoesOf(exampleRules, f)
		refused(t, "EchoesOf antennas of different lengths", api.ErrShape, l, e)
	}
	for _, x := range badSamples() {
		l, e := EchoesOf(exampleRules, api.EchoFrame{First: x.x, Second: make([]api.Gauss, len(x.x))})
		refused(t, "EchoesOf a bad first antenna", x.e, l, e)
		l, e = EchoesOf(exampleRules, api.EchoFrame{First: x.x, Second: repeated(len(x.x), re(math.MaxInt))})
		refused(t, "EchoesOf two bad antennas", x.e, l, e)
		l, e = EchoesOf(exampleRules, api.EchoFrame{First: make([]api.Gauss, len(x.x)), Second: x.x})
		refused(t, "EchoesOf a bad second antenna", x.e, l, e)
	}
}

// P2.12

func TestTurnedSampleHasTheSameTag(t *testing.T) {
	for _, r := range rulesToTry() {
		for _, x := range pairsToTry() {
			tag, e := TagOf(r, x)
			turned, turnedError := TagOf(r, [2]api.Gauss{quartered(x[0], 1), quartered(x[1], 1)})
			want(t, "TagOf a turned sample", results(turned, turnedError), results(tag, e))
		}
	}
}

func TestExchangedModesExchangeTags(t *testing.T) {
	exchangedTags := map[int]int{api.EchoNeither: api.EchoNeither, api.EchoOrdinary: api.EchoExtra, api.EchoExtra: api.EchoOrdinary, api.EchoUndecided: api.EchoUndecided}
	for _, r := range rulesToTry() {
		exchanged := r
		exchanged.Modes = api.EchoModes{Ordinary: r.Modes.Extra, Extra: r.Modes.Ordinary}
		for _, x := range pairsToTry() {
			s, e := Separated(r.Modes, x)
			want(t, "error of Separated", e, api.OK)
			if o, e := s.Ordinary, s.Extra; r.Ratio == 1 && o.Re*o.Re+o.Im*o.Im == e.Re*e.Re+e.Im*e.Im {
				continue
			}
			tag, e := TagOf(r, x)
			other, otherError := TagOf(exchanged, x)
			want(t, "TagOf with exchanged modes", results(other, otherError), results(exchangedTags[tag], e))
		}
	}
}
