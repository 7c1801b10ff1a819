package echo

import (
	"testing"

	"skywave/api"
)

// opposite are the modes of the chapter's examples.
var opposite = api.EchoModes{Ordinary: api.Gauss{Im: 1}, Extra: api.Gauss{Im: -1}}

// farthest are modes with the greatest denominator.
var farthest = api.EchoModes{Ordinary: api.Gauss{Re: 10, Im: -10}, Extra: api.Gauss{Re: -10, Im: 10}}

// modesToTry are valid modes.
func modesToTry() []api.EchoModes {
	list := []api.EchoModes{opposite, farthest,
		{Ordinary: re(1)},
		{Extra: im(-10)},
		{Ordinary: re(10), Extra: re(9)},
		{Ordinary: api.Gauss{Re: 10, Im: 10}, Extra: re(-10)},
	}
	for seed := range 30 {
		g := sampleList(seed, 2, 10)
		if g[0] != g[1] {
			list = append(list, api.EchoModes{Ordinary: g[0], Extra: g[1]})
		}
	}
	return list
}

// refusedModes are modes, and the error with which they are refused.
type refusedModes struct {
	m api.EchoModes
	e api.Errno
}

// badModes are modes that are refused, each with its error.
func badModes() []refusedModes {
	list := []refusedModes{
		{api.EchoModes{}, api.ErrZero},
		{api.EchoModes{Ordinary: api.Gauss{Re: 10, Im: -10}, Extra: api.Gauss{Re: 10, Im: -10}}, api.ErrZero},
	}
	for _, g := range beyondLimit(api.MaxEchoWeight) {
		list = append(list, refusedModes{api.EchoModes{Ordinary: g}, api.ErrRange}, refusedModes{api.EchoModes{Extra: g}, api.ErrRange}, refusedModes{api.EchoModes{Ordinary: g, Extra: g}, api.ErrRange})
	}
	return list
}

// badPairs are samples of two antennas that are refused, all of them with ErrRange.
func badPairs() [][2]api.Gauss {
	var list [][2]api.Gauss
	for _, g := range beyondLimit(api.MaxEchoSample) {
		list = append(list, [2]api.Gauss{g, {}}, [2]api.Gauss{{}, g})
	}
	return list
}

// pairsToTry are valid samples of two antennas.
func pairsToTry() [][2]api.Gauss {
	list := [][2]api.Gauss{
		{},
		{re(1), {}},
		{{}, im(1)},
		{{Re: 10000, Im: 10000}, {Re: 10000, Im: 10000}},
		{{Re: 10000, Im: 10000}, {Re: -10000, Im: -10000}},
		{{Re: -10000, Im: 10000}, {Re: 10000, Im: -10000}},
		{{Re: 10000, Im: -10000}, {Re: 10000, Im: 10000}},
	}
	for seed := range 20 {
		list = append(list, [2]api.Gauss(sampleList(seed, 2, 5)), [2]api.Gauss(sampleList(seed, 2, 10000)))
	}
	return list
}

// P2.4

func TestCheckModes(t *testing.T) {
	for _, m := range modesToTry() {
		want(t, "CheckModes", CheckModes(m), api.OK)
	}
	for _, x := range badModes() {
		refused(t, "CheckModes", x.e, CheckModes(x.m))
	}
}

func TestMixed(t *testing.T) {
	for _, x := range []struct {
		m        api.EchoModes
		parts, x [2]api.Gauss
	}{
		{opposite, [2]api.Gauss{re(2), {Re: 1, Im: 1}}, [2]api.Gauss{{Re: 3, Im: 1}, {Re: 1, Im: 1}}},
		{opposite, [2]api.Gauss{}, [2]api.Gauss{}},
		{api.EchoModes{Ordinary: api.Gauss{Re: 2, Im: 3}, Extra: re(-5)}, [2]api.Gauss{{Re: 7, Im: 1}, im(2)}, [2]api.Gauss{{Re: 7, Im: 3}, {Re: 11, Im: 13}}},
		{farthest, [2]api.Gauss{{Re: 10000, Im: 10000}, {Re: -10000, Im: -10000}}, [2]api.Gauss{{}, {Re: 400000}}},
	} {
		y, e := Mixed(x.m, x.parts)
		want(t, "Mixed", results(y, e), results(x.x, api.OK))
	}
	for _, m := range modesToTry() {
		for _, parts := range pairsToTry() {
			y, e := Mixed(m, parts)
			want(t, "Mixed", results(y, e), results(mixedByDefinition(m, parts[0], parts[1]), api.OK))
		}
	}
}

func mixedByDefinition(m api.EchoModes, o, e api.Gauss) [2]api.Gauss {
	return [2]api.Gauss{plus(o, e), plus(times(m.Ordinary, o), times(m.Extra, e))}
}

func TestMixedErrors(t *testing.T) {
	for _, x := range badModes() {
		y, e := Mixed(x.m, [2]api.Gauss{re(10001), {}})
		refused(t, "Mixed with bad modes", x.e, y, e)
	}
	for _, x := range badPairs() {
		y, e := Mixed(opposite, x)
		refused(t, "Mixed from bad parts", api.ErrRange, y, e)
	}
}

func TestSeparated(t *testing.T) {
	for _, x := range []struct {
		m api.EchoModes
		x [2]api.Gauss
		s api.EchoSplit
	}{
		{opposite, [2]api.Gauss{{Re: 3, Im: 1}, {Re: 1, Im: 1}}, api.EchoSplit{Ordinary: re(2), Extra: api.Gauss{Re: 1, Im: 1}, Den: 1}},
		{opposite, [2]api.Gauss{re(1), {}}, api.EchoSplit{Ordinary: re(1), Extra: re(1), Den: 2}},
		{opposite, [2]api.Gauss{}, api.EchoSplit{Den: 1}},
		{farthest, [2]api.Gauss{}, api.EchoSplit{Den: 1}},
		{farthest, [2]api.Gauss{{}, re(1)}, api.EchoSplit{Ordinary: api.Gauss{Re: 1, Im: 1}, Extra: api.Gauss{Re: -1, Im: -1}, Den: 40}},
		{api.EchoModes{Ordinary: api.Gauss{Re: 2, Im: 1}}, [2]api.Gauss{re(1), re(1)}, api.EchoSplit{Ordinary: api.Gauss{Re: 2, Im: -1}, Extra: api.Gauss{Re: 3, Im: 1}, Den: 5}},
		{api.EchoModes{Ordinary: api.Gauss{Re: 10, Im: 10}, Extra: re(-10)}, [2]api.Gauss{re(-10000), {Re: 9999, Im: 10000}}, api.EchoSplit{Ordinary: api.Gauss{Re: -170002, Im: 110001}, Extra: api.Gauss{Re: -329998, Im: -110001}, Den: 50}},
	} {
		s, e := Separated(x.m, x.x)
		want(t, "Separated", results(s, e), results(x.s, api.OK))
	}
}

func TestSeparatedByDefinition(t *testing.T) {
	for _, m := range modesToTry() {
		for _, x := range pairsToTry() {
			s, e := Separated(m, x)
			want(t, "error of Separated", e, api.OK)
			multiple := [2]api.Gauss{times(x[0], re(s.Den)), times(x[1], re(s.Den))}
			want(t, "what is mixed from Separated", mixedByDefinition(m, s.Ordinary, s.Extra), multiple)
			want(t, "whether Separated is reduced", isReduced(s), true)
			if beyond(s.Ordinary, 10000000) || beyond(s.Extra, 10000000) || s.Den < 1 || s.Den > 1000 {
				t.Errorf("Separated %v: %v", x, s)
			}
		}
	}
}

// isReduced tries all divisors.
func isReduced(s api.EchoSplit) bool {
	for d := 2; d <= s.Den; d++ {
		if s.Den%d == 0 && s.Ordinary.Re%d == 0 && s.Ordinary.Im%d == 0 && s.Extra.Re%d == 0 && s.Extra.Im%d == 0 {
			return false
		}
	}
	return true
}

func TestSeparatedErrors(t *testing.T) {
	for _, x := range badModes() {
		s, e := Separated(x.m, [2]api.Gauss{re(10001), {}})
		refused(t, "Separated with bad modes", x.e, s, e)
	}
	for _, x := range badPairs() {
		s, e := Separated(opposite, x)
		refused(t, "Separated of a bad sample", api.ErrRange, s, e)
	}
}

func TestCheckSplit(t *testing.T) {
	x := [2]api.Gauss{{Re: 3, Im: 1}, {Re: 1, Im: 1}}
	for _, c := range []struct {
		s api.EchoSplit
		i int
		e api.Errno
	}{
		{api.EchoSplit{Ordinary: re(2), Extra: api.Gauss{Re: 1, Im: 1}, Den: 1}, 0, api.OK},
		{api.EchoSplit{Ordinary: re(1), Extra: re(1), Den: 2}, 0, api.ErrProof},
		{api.EchoSplit{Ordinary: re(2), Extra: re(1), Den: 1}, 0, api.ErrProof},
		{api.EchoSplit{Ordinary: re(2), Extra: api.Gauss{Re: 1, Im: -1}, Den: 1}, 0, api.ErrProof},
		{api.EchoSplit{Ordinary: api.Gauss{Re: 1, Im: 1}, Extra: re(2), Den: 1}, 1, api.ErrProof},
		{api.EchoSplit{Ordinary: re(3), Extra: im(1), Den: 1}, 1, api.ErrProof},
		{api.EchoSplit{Ordinary: api.Gauss{Re: 2, Im: 1}, Extra: re(1), Den: 1}, 1, api.ErrProof},
		{api.EchoSplit{Ordinary: re(2), Extra: api.Gauss{Re: 1, Im: 1}, Den: 3}, 0, api.ErrProof},
		{api.EchoSplit{Ordinary: re(4), Extra: api.Gauss{Re: 2, Im: 2}, Den: 2}, 0, api.ErrForm},
		{api.EchoSplit{Ordinary: re(-6), Extra: api.Gauss{Re: 3, Im: 9}, Den: 9}, 0, api.ErrForm},
		{api.EchoSplit{Ordinary: re(4), Extra: api.Gauss{Re: 2, Im: 1}, Den: 2}, 0, api.ErrProof},
		{api.EchoSplit{Den: 2}, 0, api.ErrForm},
		{api.EchoSplit{Den: 1}, 0, api.ErrProof},
		{api.EchoSplit{Ordinary: api.Gauss{Re: 10000000, Im: -10000000}, Extra: api.Gauss{Re: -10000000, Im: 10000000}, Den: 1}, 0, api.ErrProof},
		{api.EchoSplit{Ordinary: re(999), Den: 1000}, 0, api.ErrProof},
		{api.EchoSplit{Ordinary: re(1000), Den: 1000}, 0, api.ErrForm},
		{api.EchoSplit{Ordinary: re(10000001), Den: 1}, 0, api.ErrRange},
		{api.EchoSplit{Ordinary: re(10000002), Den: 2}, 0, api.ErrRange},
	} {
		i, e := CheckSplit(opposite, x, c.s)
		want(t, "CheckSplit", results(i, e), results(c.i, c.e))
	}
	i, e := CheckSplit(opposite, [2]api.Gauss{}, api.EchoSplit{Den: 1})
	want(t, "CheckSplit of 0", results(i, e), results(0, api.OK))
	i, e = CheckSplit(opposite, [2]api.Gauss{}, api.EchoSplit{Den: 3})
	want(t, "CheckSplit of 0 that is not reduced", results(i, e), results(0, api.ErrForm))
}

func TestCheckSplitErrors(t *testing.T) {
	x, s := [2]api.Gauss{{Re: 3, Im: 1}, {Re: 1, Im: 1}}, api.EchoSplit{Ordinary: re(2), Extra: api.Gauss{Re: 1, Im: 1}, Den: 1}
	for _, y := range badModes() {
		i, e := CheckSplit(y.m, [2]api.Gauss{re(10001), {}}, api.EchoSplit{})
		refused(t, "CheckSplit with bad modes", y.e, i, e)
	}
	for _, y := range badPairs() {
		i, e := CheckSplit(opposite, y, api.EchoSplit{Ordinary: re(2), Den: 2})
		refused(t, "CheckSplit of a bad sample", api.ErrRange, i, e)
	}
	for _, den := range outsideOf(1, 1000) {
		bad := s
		bad.Den = den
		i, e := CheckSplit(opposite, x, bad)
		refused(t, "CheckSplit with a bad denominator", api.ErrRange, i, e)
	}
	for _, g := range beyondLimit(api.MaxEchoSplit) {
		for _, bad := range []api.EchoSplit{{Ordinary: g, Den: 1}, {Extra: g, Den: 1}, {Ordinary: g, Extra: g, Den: 7}} {
			i, e := CheckSplit(opposite, x, bad)
			refused(t, "CheckSplit with a great numerator", api.ErrRange, i, e)
		}
	}
}

// P2.11

func TestSeparatedReversesMixed(t *testing.T) {
	for _, m := range modesToTry() {
		for seed := range 20 {
			parts := [2]api.Gauss(sampleList(seed, 2, 250))
			x, e := Mixed(m, parts)
			want(t, "error of Mixed", e, api.OK)
			s, e := Separated(m, x)
			want(t, "Separated of Mixed", results(s, e), results(api.EchoSplit{Ordinary: parts[0], Extra: parts[1], Den: 1}, api.OK))
		}
	}
}

func TestCheckSplitAcceptsSeparatedOnly(t *testing.T) {
	for _, m := range modesToTry() {
		for _, x := range pairsToTry() {
			s, e := Separated(m, x)
			want(t, "error of Separated", e, api.OK)
			i, e := CheckSplit(m, x, s)
			want(t, "CheckSplit of Separated", results(i, e), results(0, api.OK))
			for _, other := range splitsBeside(s) {
				if _, e := CheckSplit(m, x, other); e == api.OK {
					t.Errorf("CheckSplit of %v accepts %v beside %v", x, other, s)
				}
			}
		}
	}
}

// splitsBeside returns separations that differ a little, or are multiples.
func splitsBeside(s api.EchoSplit) []api.EchoSplit {
	var list []api.EchoSplit
	for _, n := range []int{1, -1} {
		for _, g := range []api.Gauss{re(n), im(n)} {
			list = append(list,
				api.EchoSplit{Ordinary: plus(s.Ordinary, g), Extra: s.Extra, Den: s.Den},
				api.EchoSplit{Ordinary: s.Ordinary, Extra: plus(s.Extra, g), Den: s.Den},
				api.EchoSplit{Ordinary: plus(s.Ordinary, g), Extra: plus(s.Extra, times(g, re(-1))), Den: s.Den},
			)
		}
		list = append(list,
			api.EchoSplit{Ordinary: times(s.Ordinary, re(n+3)), Extra: times(s.Extra, re(n+3)), Den: s.Den * (n + 3)},
			api.EchoSplit{Ordinary: s.Ordinary, Extra: s.Extra, Den: s.Den + n},
		)
	}
	minus := api.EchoSplit{Ordinary: times(s.Ordinary, re(-1)), Extra: times(s.Extra, re(-1)), Den: -s.Den}
	return append(list, minus)
}
