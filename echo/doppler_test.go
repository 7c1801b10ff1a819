package echo

import (
	"testing"

	"skywave/api"
)

// irregularSamples returns lists of samples of all lengths from 1 to 64, of small and of the greatest parts.
func irregularSamples() [][]api.Gauss {
	var lists [][]api.Gauss
	for count := 1; count <= 64; count++ {
		lists = append(lists, sampleList(count, count, 9), sampleList(count, count, 10000))
	}
	return append(lists,
		repeated(64, api.Gauss{Re: 10000, Im: 10000}),
		repeated(64, api.Gauss{Re: -10000, Im: 10000}),
		repeated(63, im(-10000)),
	)
}

func linesByDefinition(x []api.Gauss) [4]api.Gauss {
	var h [4]api.Gauss
	for n := range h {
		for k, g := range x {
			h[n] = plus(h[n], quartered(g, -n*k))
		}
	}
	return h
}

// P2.3

func TestLagProduct(t *testing.T) {
	for _, x := range []struct {
		x []api.Gauss
		g api.Gauss
	}{
		{[]api.Gauss{re(1), im(1), re(-1)}, im(2)},
		{[]api.Gauss{im(1), re(1)}, im(-1)},
		{[]api.Gauss{{Re: 2, Im: 3}, {Re: 5, Im: 7}}, api.Gauss{Re: 31, Im: -1}},
		{[]api.Gauss{{}, re(4)}, api.Gauss{}},
		{repeated(64, api.Gauss{Re: -10000, Im: 10000}), re(63 * 200000000)},
	} {
		g, e := LagProduct(x.x)
		want(t, "LagProduct", results(g, e), results(x.g, api.OK))
	}
	for _, x := range irregularSamples()[2:] {
		var sum api.Gauss
		for k := range x[1:] {
			sum = plus(sum, times(api.Gauss{Re: x[k].Re, Im: -x[k].Im}, x[k+1]))
		}
		g, e := LagProduct(x)
		want(t, "LagProduct", results(g, e), results(sum, api.OK))
	}
}

func TestLagProductErrors(t *testing.T) {
	for _, x := range [][]api.Gauss{nil, {re(1)}, {re(10001)}} {
		g, e := LagProduct(x)
		refused(t, "LagProduct of few samples", api.ErrShape, g, e)
	}
	for _, x := range badSamples() {
		g, e := LagProduct(x.x)
		refused(t, "LagProduct", x.e, g, e)
	}
}

func TestLinesOf(t *testing.T) {
	for _, x := range []struct {
		x []api.Gauss
		h [4]api.Gauss
	}{
		{[]api.Gauss{re(1), im(1), re(-1), im(-1)}, [4]api.Gauss{1: re(4)}},
		{[]api.Gauss{re(1), im(-1), re(-1), im(1)}, [4]api.Gauss{3: re(4)}},
		{[]api.Gauss{im(2), im(-2), im(2), im(-2)}, [4]api.Gauss{2: im(8)}},
		{[]api.Gauss{im(2), im(2), im(2), im(2)}, [4]api.Gauss{im(8)}},
		{[]api.Gauss{{Re: 3, Im: 4}}, [4]api.Gauss{{Re: 3, Im: 4}, {Re: 3, Im: 4}, {Re: 3, Im: 4}, {Re: 3, Im: 4}}},
		{[]api.Gauss{{}, re(1)}, [4]api.Gauss{re(1), im(-1), re(-1), im(1)}},
		{[]api.Gauss{{}}, [4]api.Gauss{}},
	} {
		h, e := LinesOf(x.x)
		want(t, "LinesOf", results(h, e), results(x.h, api.OK))
	}
	for _, x := range irregularSamples() {
		h, e := LinesOf(x)
		want(t, "LinesOf", results(h, e), results(linesByDefinition(x), api.OK))
	}
}

func TestLinesOfErrors(t *testing.T) {
	h, e := LinesOf(nil)
	refused(t, "LinesOf no samples", api.ErrShape, h, e)
	for _, x := range badSamples() {
		h, e := LinesOf(x.x)
		refused(t, "LinesOf", x.e, h, e)
	}
}

func TestSumsOf(t *testing.T) {
	for _, x := range []struct{ h, sums [4]api.Gauss }{
		{[4]api.Gauss{1: re(4)}, [4]api.Gauss{re(1), im(1), re(-1), im(-1)}},
		{[4]api.Gauss{3: re(4)}, [4]api.Gauss{re(1), im(-1), re(-1), im(1)}},
		{[4]api.Gauss{2: im(-8)}, [4]api.Gauss{im(-2), im(2), im(-2), im(2)}},
		{[4]api.Gauss{{Re: 3, Im: 4}, {Re: 3, Im: 4}, {Re: 3, Im: 4}, {Re: 3, Im: 4}}, [4]api.Gauss{{Re: 3, Im: 4}}},
		{[4]api.Gauss{re(1000000), im(1000000), re(-1000000), im(-1000000)}, [4]api.Gauss{3: re(1000000)}},
		{[4]api.Gauss{}, [4]api.Gauss{}},
	} {
		sums, e := SumsOf(x.h)
		want(t, "SumsOf", results(sums, e), results(x.sums, api.OK))
	}
}

func TestSumsOfForm(t *testing.T) {
	for n := range 4 {
		for _, g := range []api.Gauss{re(1), re(2), re(-3), im(1), im(2), im(-1), {Re: 4, Im: 2}, {Re: 2, Im: 4}} {
			var h [4]api.Gauss
			h[n] = g
			sums, e := SumsOf(h)
			refused(t, "SumsOf", api.ErrForm, sums, e)
		}
	}
	// The sums are 2, 0, 2, 0 halves, and only the second and the fourth one whole.
	sums, e := SumsOf([4]api.Gauss{re(1), {}, re(1), {}})
	refused(t, "SumsOf two lines", api.ErrForm, sums, e)
	for seed := range 200 {
		h := [4]api.Gauss(sampleList(seed, 4, 3))
		sums, e := SumsOf(h)
		if e == api.OK {
			want(t, "lines of SumsOf", linesByDefinition(sums[:]), h)
		} else {
			refused(t, "SumsOf", api.ErrForm, sums, e)
			want(t, "whether there are such sums", haveSums(h), false)
		}
	}
}

// haveSums tells whether four lines are lines of whole samples: four times each sum is a sum of turned lines.
func haveSums(h [4]api.Gauss) bool {
	for q := range 4 {
		var sum api.Gauss
		for n, line := range h {
			sum = plus(sum, quartered(line, n*q))
		}
		if sum.Re%4 != 0 || sum.Im%4 != 0 {
			return false
		}
	}
	return true
}

func TestSumsOfErrors(t *testing.T) {
	for n := range 4 {
		for _, g := range beyondLimit(api.MaxEchoSum) {
			h := [4]api.Gauss{re(1), re(1), re(1), im(1)}
			h[n] = g
			sums, e := SumsOf(h)
			refused(t, "SumsOf", api.ErrRange, sums, e)
		}
	}
}

func TestDopplerOf(t *testing.T) {
	for _, x := range []struct {
		x []api.Gauss
		n int
	}{
		{[]api.Gauss{re(1), im(1), re(-1), im(-1)}, 1},
		{[]api.Gauss{re(1), im(-1), re(-1), im(1)}, 3},
		{[]api.Gauss{re(1), re(-1)}, 2},
		{[]api.Gauss{re(1), re(1)}, 0},
		{[]api.Gauss{re(1)}, 0},
		{[]api.Gauss{{}, im(-1)}, 0},
		// The lines 0 and 2 of the first ones are 0, 1 and 3 equal in power; those of the second ones the other way about.
		{[]api.Gauss{re(1), {}, re(-1)}, 1},
		{[]api.Gauss{re(1), {}, re(1)}, 0},
		{[]api.Gauss{re(1), {Re: 1, Im: 1}}, 0},
		{[]api.Gauss{re(1), {Re: -1, Im: -1}}, 2},
		{[]api.Gauss{re(1), {Re: -1, Im: 1}}, 1},
		{[]api.Gauss{re(1), {Re: -2, Im: -1}}, 2},
		{[]api.Gauss{re(1), {Re: -1, Im: -2}}, 3},
	} {
		n, e := DopplerOf(x.x)
		want(t, "DopplerOf", results(n, e), results(x.n, api.OK))
	}
	for _, x := range irregularSamples() {
		h := linesByDefinition(x)
		n, e := DopplerOf(x)
		want(t, "error of DopplerOf", e, api.OK)
		for other := range h {
			power, otherPower := h[n].Re*h[n].Re+h[n].Im*h[n].Im, h[other].Re*h[other].Re+h[other].Im*h[other].Im
			if otherPower > power || otherPower == power && other < n {
				t.Errorf("DopplerOf %v: %d, not %d", x, n, other)
			}
		}
	}
}

func TestDopplerOfErrors(t *testing.T) {
	n, e := DopplerOf(nil)
	refused(t, "DopplerOf no samples", api.ErrShape, n, e)
	for _, x := range badSamples() {
		n, e := DopplerOf(x.x)
		refused(t, "DopplerOf", x.e, n, e)
	}
	for _, x := range [][]api.Gauss{{{}}, make([]api.Gauss, 64), {re(1), {}, {}, {}, re(-1)}} {
		n, e := DopplerOf(x)
		refused(t, "DopplerOf lines of 0", api.ErrZero, n, e)
	}
}

// P2.10

func TestSumsReverseLines(t *testing.T) {
	for _, x := range irregularSamples() {
		var expected [4]api.Gauss
		for k, g := range x {
			expected[k%4] = plus(expected[k%4], g)
		}
		h, e := LinesOf(x)
		want(t, "error of LinesOf", e, api.OK)
		sums, e := SumsOf(h)
		want(t, "SumsOf", results(sums, e), results(expected, api.OK))
	}
}

func TestTurningSamplesHaveOneLine(t *testing.T) {
	for _, g := range []api.Gauss{re(1), {Re: -7, Im: 9}, {Re: 10000, Im: -10000}} {
		for n := range 4 {
			for count := 4; count <= 64; count += 4 {
				x := make([]api.Gauss, count)
				for k := range x {
					x[k] = quartered(g, n*k)
				}
				var expected [4]api.Gauss
				expected[n] = times(g, re(count))
				h, e := LinesOf(x)
				want(t, "LinesOf", results(h, e), results(expected, api.OK))
				line, e := DopplerOf(x)
				want(t, "DopplerOf", results(line, e), results(n, api.OK))
			}
		}
	}
}
