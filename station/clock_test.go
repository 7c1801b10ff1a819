package station

import (
	"testing"

	"skywave/api"
)

// P9.1

func TestCheckExchange(t *testing.T) {
	for _, x := range []api.StationExchange{
		{}, exchange(100, 505, 110), exchange(100, 0, 100), exchange(0, 0, 1000000000000), exchange(0, 1000000000000, 0), exchange(1000000000000, 1000000000000, 1000000000000), exchange(5, 1000000000000, 6),
	} {
		want(t, "CheckExchange", CheckExchange(x), api.OK)
	}
	for _, x := range badExchanges() {
		want(t, "CheckExchange", results(x.x, CheckExchange(x.x)), results(x.x, x.e))
	}
}

func TestOffsetBy(t *testing.T) {
	x, long := exchange(100, 505, 110), exchange(0, 0, 1000000000000)
	for _, y := range []struct {
		x        api.StationExchange
		drift, t int
		r        api.Range
	}{
		{x, 0, 0, rangeOf(395, 405)},
		{x, 0, 100, rangeOf(395, 405)},
		{x, 0, 1000000000000, rangeOf(395, 405)},
		{x, 2, 600, rangeOf(394, 406)},
		{x, 2, 610, rangeOf(394, 406)},
		{x, 2, 611, rangeOf(393, 407)},
		{x, 2, 111, rangeOf(394, 406)},
		{x, 2, 110, rangeOf(395, 405)},
		{x, 1000, 105, rangeOf(395, 405)},
		{x, 1000, 100, rangeOf(395, 405)},
		{x, 1000, 99, rangeOf(394, 406)},
		{x, 1000, 0, rangeOf(295, 505)},
		{x, 1, 0, rangeOf(394, 406)},
		{x, 1000, 1000000000000, rangeOf(-999999999495, 1000000000295)},
		{exchange(7, 507, 7), 0, 9, rangeOf(500, 500)}, // no duration
		{exchange(7, 507, 7), 1, 7, rangeOf(500, 500)},
		{exchange(7, 507, 7), 1, 8, rangeOf(499, 501)},
		{exchange(500, 0, 600), 0, 0, rangeOf(-600, -500)},
		{exchange(500, 0, 600), 100, 490, rangeOf(-601, -499)},
		{exchange(500, 0, 600), 100, 489, rangeOf(-602, -498)},
		{long, 1000, 500000000000, rangeOf(-1000000000000, 0)},
		{long, 1000, 0, rangeOf(-1000000000000, 0)},
		{exchange(0, 0, 0), 1000, 1000000000000, rangeOf(-1000000000000, 1000000000000)},
		{exchange(0, 1000000000000, 0), 999, 999999999999, rangeOf(1000000000, 1999000000000)},
	} {
		r, e := OffsetBy(y.x, y.drift, y.t)
		want(t, "OffsetBy", results(y.x, y.drift, y.t, r, e), results(y.x, y.drift, y.t, y.r, api.OK))
	}
}

// widenedBy is the least number that 1000 times is at least the drift times the distance.
func widenedBy(x api.StationExchange, drift, t int) int {
	distance := 0
	if t < x.Sent {
		distance = x.Sent - t
	} else if t > x.Received {
		distance = t - x.Received
	}
	more := 0
	for more*1000 < drift*distance {
		more++
	}
	return more
}

// offsetByDefinition is the offset at a time by an exchange.
func offsetByDefinition(x api.StationExchange, drift, t int) api.Range {
	more := widenedBy(x, drift, t)
	return rangeOf(x.True-x.Received-more, x.True-x.Sent+more)
}

// irregularExchanges returns exchanges whose offsets are near one another.
func irregularExchanges(seed int) []api.StationExchange {
	next := numbers(seed)
	var l []api.StationExchange
	for range 1 + next(8) {
		sent := next(2000)
		l = append(l, exchange(sent, sent+50+next(40), sent+next(60)))
	}
	return l
}

// commonByDefinition is the numbers that lie in the offsets by all exchanges.
func commonByDefinition(l []api.StationExchange, drift, t int) []int {
	var all []int
	for n := -3000; n <= 3000; n++ {
		isIn := true
		for _, x := range l {
			r := offsetByDefinition(x, drift, t)
			isIn = isIn && r.Lo <= n && n <= r.Hi
		}
		if isIn {
			all = append(all, n)
		}
	}
	return all
}

func TestOffsetsByDefinition(t *testing.T) {
	clashes := 0
	for seed := range 120 {
		l := irregularExchanges(seed)
		next := numbers(seed + 50)
		for range 4 {
			drift, at := next(40)*next(2), next(2200)
			for _, x := range l {
				r, e := OffsetBy(x, drift, at)
				want(t, "OffsetBy", results(r, e), results(offsetByDefinition(x, drift, at), api.OK))
			}
			all := commonByDefinition(l, drift, at)
			r, e := OffsetAt(l, drift, at)
			whole, o := TrueAt(l, drift, at)
			pair, u := Contradicting(l, drift, at)
			if len(all) == 0 {
				clashes++
				refused(t, "OffsetAt", api.ErrClash, r, e)
				refused(t, "TrueAt", api.ErrClash, whole, o)
				want(t, "Contradicting", results(pair, u), results(firstContradicting(l, drift, at), api.OK))
				continue
			}
			first, last := all[0], all[len(all)-1]
			want(t, "OffsetAt", results(r, e), results(rangeOf(first, last), api.OK))
			want(t, "TrueAt", results(whole, o), results(rangeOf(at+first, at+last), api.OK))
			refused(t, "Contradicting", api.ErrNone, pair, u)
		}
	}
	if clashes < 50 || clashes > 400 {
		t.Errorf("%d of 480 clash", clashes)
	}
}

// firstContradicting goes through all pairs of exchanges.
func firstContradicting(l []api.StationExchange, drift, t int) [2]int {
	for i := range l {
		for j := range l {
			pair := []api.StationExchange{l[i], l[j]}
			if i < j && len(commonByDefinition(pair, drift, t)) == 0 {
				return [2]int{i, j}
			}
		}
	}
	return [2]int{}
}

func TestOffsetAt(t *testing.T) {
	l := exampleExchanges()
	r, e := OffsetAt(l, 0, 300)
	want(t, "OffsetAt", results(r, e), results(rangeOf(396, 400), api.OK))
	r, e = TrueAt(l, 0, 300)
	want(t, "TrueAt", results(r, e), results(rangeOf(696, 700), api.OK))
	r, e = OffsetAt(l[:1], 2, 600)
	want(t, "OffsetAt by one exchange", results(r, e), results(rangeOf(394, 406), api.OK))
	r, e = OffsetAt(append(manyOf(l[0], 19), l[1]), 0, 300)
	want(t, "OffsetAt by as many as there may be", results(r, e), results(rangeOf(396, 400), api.OK))
	touching := []api.StationExchange{exchange(100, 505, 110), exchange(100, 515, 110)}
	r, e = OffsetAt(touching, 0, 300)
	want(t, "OffsetAt of what touches", results(r, e), results(rangeOf(405, 405), api.OK))
	// True times may be below 0, and above the greatest tick.
	r, e = TrueAt([]api.StationExchange{exchange(500, 0, 600)}, 0, 20)
	want(t, "TrueAt below 0", results(r, e), results(rangeOf(-580, -480), api.OK))
	r, e = TrueAt([]api.StationExchange{exchange(0, 1000000000000, 0)}, 1000, 1000000000000)
	want(t, "TrueAt above the greatest tick", results(r, e), results(rangeOf(1000000000000, 3000000000000), api.OK))
}

func TestContradicting(t *testing.T) {
	a, b, c := exchange(100, 505, 110), exchange(300, 720, 310), exchange(200, 600, 204)
	for _, x := range []struct {
		l        []api.StationExchange
		drift, t int
		pair     [2]int
	}{
		{[]api.StationExchange{a, b}, 0, 300, [2]int{0, 1}},
		{[]api.StationExchange{b, a}, 0, 300, [2]int{0, 1}},
		{[]api.StationExchange{a, c, b}, 0, 300, [2]int{0, 2}},
		{[]api.StationExchange{a, a, b, b}, 0, 300, [2]int{0, 2}},
		{[]api.StationExchange{exchange(100, 515, 110), b, c}, 0, 300, [2]int{0, 2}},
		{[]api.StationExchange{exchange(0, 407, 40), a, b, c}, 0, 300, [2]int{0, 2}},
		{[]api.StationExchange{exchange(0, 440, 80), a, b, a}, 0, 300, [2]int{1, 2}},
		{append(manyOf(a, 19), b), 0, 300, [2]int{0, 19}},
		{append([]api.StationExchange{exchange(0, 500, 200)}, append(manyOf(a, 18), b)...), 0, 300, [2]int{1, 19}},
	} {
		pair, e := Contradicting(x.l, x.drift, x.t)
		want(t, "Contradicting", results(pair, e), results(x.pair, api.OK))
		r, e := OffsetAt(x.l, x.drift, x.t)
		refused(t, "OffsetAt", api.ErrClash, r, e)
		r, e = TrueAt(x.l, x.drift, x.t)
		refused(t, "TrueAt", api.ErrClash, r, e)
	}
	// 26 more ticks on both sides are enough for what is 5 apart.
	pair, e := Contradicting([]api.StationExchange{a, b}, 26, 300)
	refused(t, "Contradicting with a drift", api.ErrNone, pair, e)
	pair, e = Contradicting([]api.StationExchange{a}, 0, 300)
	refused(t, "Contradicting of one exchange", api.ErrNone, pair, e)
	pair, e = Contradicting(exampleExchanges(), 0, 300)
	refused(t, "Contradicting of what agrees", api.ErrNone, pair, e)
}

// An exchange of no duration gives one offset; with the drift 0 it is the same at all times.
func TestEdgesOfClocks(t *testing.T) {
	for _, tick := range []int{0, 1, 7, 500, 999999999999, 1000000000000} {
		for _, at := range []int{0, 7, 1000000000000} {
			r, e := OffsetBy(exchange(tick, at, tick), 1000, tick)
			want(t, "OffsetBy of no duration", results(r, e), results(rangeOf(at-tick, at-tick), api.OK))
			r, e = OffsetBy(exchange(5, at, 50), 0, tick)
			want(t, "OffsetBy without a drift", results(r, e), results(rangeOf(at-50, at-5), api.OK))
		}
	}
}

// P9.7

func TestTrueOffset(t *testing.T) {
	for seed := range 200 {
		next := numbers(seed + 70)
		drift := next([]int{1, 10, 1001}[seed%3])
		rate := next(2*drift+1) - drift
		first := 100000 + next(1000)
		// thousandths is the true offset in thousandths of a tick: it changes by the rate.
		thousandths := func(t int) int { return 1000*first + rate*t }
		var l []api.StationExchange
		for range 1 + next(20) {
			sent := next(30000)
			received := sent + 2 + next(50)
			// True lies between the true times of both, so that both offsets lie in the range.
			least := (1000*sent + thousandths(sent) + 999) / 1000
			least = max(least, (1000*sent+thousandths(received)+999)/1000)
			most := min((1000*received+thousandths(sent))/1000, (1000*received+thousandths(received))/1000)
			if least <= most {
				l = append(l, exchange(sent, least+next(most-least+1), received))
			}
		}
		if len(l) == 0 {
			continue
		}
		for range 30 {
			at := next(40000)
			r, e := OffsetAt(l, drift, at)
			if e != api.OK || thousandths(at) < 1000*r.Lo || thousandths(at) > 1000*r.Hi {
				t.Errorf("OffsetAt of %v with %d at %d: %v, %d, but it is %d thousandths", l, drift, at, r, e, thousandths(at))
			}
			pair, e := Contradicting(l, drift, at)
			refused(t, "Contradicting", api.ErrNone, pair, e)
		}
	}
}
