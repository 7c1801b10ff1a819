package code

import (
	"testing"

	"skywave/api"
)

// chirps are chirps of all kinds: level, slow, even, steep, at the limits.
var chirps = []api.CodeChirp{
	{Start: 5000, Num: 3, Den: 4},
	{Start: 0, Num: 0, Den: 1},
	{Start: 7, Num: 0, Den: 1000},
	{Start: 1, Num: 1, Den: 1},
	{Start: 2, Num: 1, Den: 7},
	{Start: 3, Num: 5, Den: 7},
	{Start: 99999, Num: 999, Den: 1000},
	{Start: 4, Num: 2, Den: 4},
	{Start: 11, Num: 9, Den: 4},
	{Start: 100000, Num: 1000, Den: 1},
}

// badChirps are chirps that are refused.
var badChirps = append([]api.CodeChirp{
	{},
	{Start: -1, Num: 1, Den: 1},
	{Start: 100001, Num: 1, Den: 1},
	{Num: -1, Den: 1},
	{Num: 1001, Den: 1},
	{Num: 1, Den: 0},
	{Num: 1, Den: -1},
	{Num: 1, Den: 1001},
}, extremeChirps()...)

func extremeChirps() []api.CodeChirp {
	var list []api.CodeChirp
	for _, n := range extremes {
		list = append(list, api.CodeChirp{Start: n, Den: 1}, api.CodeChirp{Num: n, Den: 1}, api.CodeChirp{Den: n})
	}
	return list
}

// P1.3

func TestCheckChirp(t *testing.T) {
	for _, c := range chirps {
		want(t, "CheckChirp", CheckChirp(c), api.OK)
	}
	for _, c := range badChirps {
		want(t, "CheckChirp", CheckChirp(c), api.ErrRange)
	}
}

func TestChirpAt(t *testing.T) {
	for tick, frequency := range []int{5000, 5000, 5001, 5002, 5003, 5003} {
		n, e := ChirpAt(chirps[0], tick)
		want(t, "ChirpAt", results(n, e), results(frequency, api.OK))
	}
	n, e := ChirpAt(api.CodeChirp{Start: 100000, Num: 1000, Den: 1}, 1000000)
	want(t, "ChirpAt the last tick", results(n, e), results(1000100000, api.OK))
	n, e = ChirpAt(api.CodeChirp{Start: 3, Num: 999, Den: 1000}, 999999)
	want(t, "ChirpAt a late tick", results(n, e), results(3+998999, api.OK))
	for _, tick := range append([]int{-1, 1000001}, extremes...) {
		n, e := ChirpAt(chirps[0], tick)
		refused(t, "ChirpAt", api.ErrRange, n, e)
	}
	for _, c := range badChirps {
		n, e := ChirpAt(c, 0)
		refused(t, "ChirpAt of a bad chirp", api.ErrRange, n, e)
	}
}

func TestRisesOf(t *testing.T) {
	l, e := RisesOf(chirps[0], 6)
	want(t, "RisesOf", results(l, e), results([]int{2, 3, 4}, api.OK))
	l, e = RisesOf(chirps[0], 4)
	want(t, "RisesOf below a rise", results(l, e), results([]int{2, 3}, api.OK))
	l, e = RisesOf(api.CodeChirp{Num: 1000, Den: 1}, 3)
	want(t, "RisesOf a steep chirp", results(l, e), results([]int{1, 2}, api.OK))
	l, e = RisesOf(api.CodeChirp{Start: 9, Den: 3}, 64)
	want(t, "RisesOf a level chirp", results(l, e), results([]int{}, api.OK))
	for count := range 2 {
		l, e = RisesOf(api.CodeChirp{Num: 1, Den: 1}, count)
		want(t, "RisesOf without a tick before", results(l, e), results([]int{}, api.OK))
	}
	l, e = RisesOf(api.CodeChirp{Num: 1, Den: 1}, 64)
	want(t, "RisesOf 64 ticks", results(len(l), e), results(63, api.OK))
	for _, count := range append([]int{-1, 65}, extremes...) {
		l, e := RisesOf(chirps[0], count)
		refused(t, "RisesOf", api.ErrRange, l, e)
	}
	for _, c := range badChirps {
		l, e := RisesOf(c, 3)
		refused(t, "RisesOf a bad chirp", api.ErrRange, l, e)
	}
}

func TestChirpWave(t *testing.T) {
	w, e := ChirpWave(chirps[0], 6)
	want(t, "ChirpWave", results(w, e), results([]api.Gauss{re(1), re(1), re(1), im(1), im(-1), re(-1)}, api.OK))
	for _, c := range chirps {
		for count := 1; count <= 32; count++ {
			expected := make([]api.Gauss, count)
			sum := 0
			for tick := range expected {
				expected[tick] = turned(re(1), sum)
				n, _ := ChirpAt(c, tick)
				sum += n
			}
			w, e := ChirpWave(c, count)
			want(t, "ChirpWave", results(w, e), results(expected, api.OK))
		}
	}
	for _, count := range append([]int{-1, 0, 33, 64}, extremes...) {
		w, e := ChirpWave(chirps[0], count)
		refused(t, "ChirpWave", api.ErrRange, w, e)
	}
	for _, c := range badChirps {
		w, e := ChirpWave(c, 3)
		refused(t, "ChirpWave of a bad chirp", api.ErrRange, w, e)
	}
}

// P1.10

func TestEvenSteps(t *testing.T) {
	for den := 1; den <= 40; den++ {
		for num := 0; num <= den; num++ {
			c := api.CodeChirp{Start: 50, Num: num, Den: den}
			l, e := RisesOf(c, 64)
			want(t, "RisesOf", e, api.OK)
			wantEven(t, c, l)
		}
	}
	for _, c := range chirps {
		for _, tick := range []int{0, 1, 2, 63, 999, 123457, 1000000} {
			n, e := ChirpAt(c, tick)
			above := c.Start*c.Den + tick*c.Num - n*c.Den
			want(t, "ChirpAt", results(e, above >= 0, above < c.Den), results(api.OK, true, true))
		}
	}
}

// wantEven checks that the distances between neighbouring rises differ by at most one.
func wantEven(t *testing.T, c api.CodeChirp, rises []int) {
	t.Helper()
	least, most := 100, 0
	for i := 1; i < len(rises); i++ {
		least = min(least, rises[i]-rises[i-1])
		most = max(most, rises[i]-rises[i-1])
	}
	if most > least+1 {
		t.Errorf("the rises %v of %v are uneven", rises, c)
	}
	want(t, "the number of rises", len(rises), 63*c.Num/c.Den)
}
