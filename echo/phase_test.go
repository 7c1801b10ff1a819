package echo

import (
	"math/cmplx"
	"testing"

	"skywave/api"
)

// badReadings are readings that are refused, all of them with ErrRange.
func badReadings() []api.EchoReading {
	var list []api.EchoReading
	for _, n := range outsideOf(-360, 360) {
		list = append(list, api.EchoReading{Spacing: n})
	}
	for _, n := range outsideOf(0, 719) {
		list = append(list, api.EchoReading{Phase: n})
	}
	for _, n := range outsideOf(0, 360) {
		list = append(list, api.EchoReading{Error: n})
	}
	return list
}

// P2.1

func TestCheckReading(t *testing.T) {
	for _, r := range []api.EchoReading{
		{},
		{Spacing: 8, Phase: 72, Error: 8},
		{Spacing: 360, Phase: 719, Error: 360},
		{Spacing: -360, Phase: 0, Error: 0},
	} {
		want(t, "CheckReading", CheckReading(r), api.OK)
	}
	for _, r := range badReadings() {
		refused(t, "CheckReading", api.ErrRange, CheckReading(r))
	}
}

func TestPhaseOf(t *testing.T) {
	for _, x := range []struct{ spacing, direction, phase int }{
		{100, 9, 180}, {100, -1, 620}, {-100, 1, 620}, {-100, -9, 180}, {0, 90, 0}, {0, -90, 0}, {360, 2, 0}, {360, 1, 360}, {-360, 1, 360},
		{8, 90, 0}, {-8, 90, 0}, {1, 90, 90}, {1, -90, 630}, {359, 90, 630}, {359, -90, 90}, {7, 0, 0},
	} {
		n, e := PhaseOf(x.spacing, x.direction)
		want(t, "PhaseOf", results(n, e), results(x.phase, api.OK))
	}
	for spacing := -360; spacing <= 360; spacing++ {
		for direction := -90; direction <= 90; direction++ {
			n, e := PhaseOf(spacing, direction)
			if e != api.OK || n < 0 || n > 719 || (spacing*direction-n)%720 != 0 {
				t.Fatalf("PhaseOf(%d, %d): %d, %d", spacing, direction, n, e)
			}
		}
	}
}

func TestPhaseOfErrors(t *testing.T) {
	for _, n := range outsideOf(-360, 360) {
		phase, e := PhaseOf(n, 1)
		refused(t, "PhaseOf a spacing", api.ErrRange, phase, e)
	}
	for _, n := range outsideOf(-90, 90) {
		phase, e := PhaseOf(1, n)
		refused(t, "PhaseOf a direction", api.ErrRange, phase, e)
	}
}

func TestOctantOf(t *testing.T) {
	for _, x := range []struct {
		g      api.Gauss
		octant int
	}{
		{api.Gauss{Re: 3, Im: 1}, 0}, {re(1), 0}, {api.Gauss{Re: 1, Im: 1}, 1}, {api.Gauss{Re: 1, Im: 3}, 1},
		{im(1), 2}, {api.Gauss{Re: -1, Im: 3}, 2}, {api.Gauss{Re: -1, Im: 1}, 3}, {api.Gauss{Re: -3, Im: 1}, 3},
		{re(-1), 4}, {api.Gauss{Re: -3, Im: -1}, 4}, {api.Gauss{Re: -1, Im: -1}, 5}, {api.Gauss{Re: -1, Im: -2}, 5},
		{im(-1), 6}, {api.Gauss{Re: 1, Im: -3}, 6}, {api.Gauss{Re: 1, Im: -1}, 7}, {api.Gauss{Re: 3, Im: -1}, 7},
		{re(1000000000), 0}, {im(-1000000000), 6}, {api.Gauss{Re: 1000000000, Im: 1000000000}, 1},
		{api.Gauss{Re: 1000000000, Im: 999999999}, 0}, {api.Gauss{Re: -999999999, Im: 1000000000}, 2},
		{api.Gauss{Re: 1000000000, Im: -1}, 7}, {api.Gauss{Re: -1000000000, Im: 1}, 3},
	} {
		o, e := OctantOf(x.g)
		want(t, "OctantOf", results(o, e), results(x.octant, api.OK))
	}
}

func TestOctantOfByAngles(t *testing.T) {
	for a := -20; a <= 20; a++ {
		for b := -20; b <= 20; b++ {
			if a == 0 && b == 0 {
				continue
			}
			// An angle between borders is not near to one, as both parts are small.
			turns := cmplx.Phase(complex(float64(a), float64(b))) / (2 * 3.141592653589793)
			o, e := OctantOf(api.Gauss{Re: a, Im: b})
			want(t, "OctantOf", results(o, e), results((int(turns*8+8+1e-6))%8, api.OK))
		}
	}
}

func TestOctantOfErrors(t *testing.T) {
	for _, g := range beyondLimit(api.MaxEchoPower) {
		o, e := OctantOf(g)
		refused(t, "OctantOf", api.ErrRange, o, e)
	}
	o, e := OctantOf(api.Gauss{})
	refused(t, "OctantOf 0", api.ErrZero, o, e)
}

func TestReadingOf(t *testing.T) {
	for _, x := range []struct {
		a, b    api.Gauss
		spacing int
		phase   int
	}{
		{re(1), im(1), 100, 225},
		{im(1), re(1), 100, 585},
		{re(7), re(7), -360, 45},
		{api.Gauss{Re: 3, Im: 2}, api.Gauss{Re: 2, Im: -5}, 360, 495},
		{api.Gauss{Re: 10000, Im: 10000}, api.Gauss{Re: -10000, Im: -10000}, 0, 405},
		{api.Gauss{Re: 10000, Im: -9999}, api.Gauss{Re: 10000, Im: -10000}, 0, 675},
		{api.Gauss{Re: 2, Im: 1}, api.Gauss{Re: 1, Im: 2}, 3, 45},
		{api.Gauss{Re: 3, Im: 1}, api.Gauss{Re: 1, Im: 2}, 3, 135},
		{im(-10000), re(-10000), 3, 585},
	} {
		r, e := ReadingOf(x.a, x.b, x.spacing)
		want(t, "ReadingOf", results(r, e), results(api.EchoReading{Spacing: x.spacing, Phase: x.phase, Error: 45}, api.OK))
	}
}

func TestReadingOfErrors(t *testing.T) {
	for _, g := range beyondLimit(api.MaxEchoSample) {
		r, e := ReadingOf(g, api.Gauss{}, 1)
		refused(t, "ReadingOf the first sample", api.ErrRange, r, e)
		r, e = ReadingOf(api.Gauss{}, g, 1)
		refused(t, "ReadingOf the second sample", api.ErrRange, r, e)
	}
	for _, n := range outsideOf(-360, 360) {
		r, e := ReadingOf(api.Gauss{}, api.Gauss{}, n)
		refused(t, "ReadingOf a spacing", api.ErrRange, r, e)
	}
	for _, x := range [][2]api.Gauss{{{}, re(1)}, {im(1), {}}, {}} {
		r, e := ReadingOf(x[0], x[1], 1)
		refused(t, "ReadingOf 0", api.ErrZero, r, e)
	}
}

// P2.9

func TestPhaseLiesInReading(t *testing.T) {
	for _, a := range append(sampleList(1, 50, 1000), re(1), im(-7), api.Gauss{Re: -3, Im: 3}) {
		if a == (api.Gauss{}) {
			continue
		}
		for n := range 4 {
			for _, factor := range []int{1, 2, 9} {
				b := quartered(times(a, re(factor)), n)
				r, e := ReadingOf(a, b, 5)
				want(t, "error of ReadingOf", e, api.OK)
				if d := phaseDistance(r.Phase, 180*n); d > r.Error {
					t.Errorf("ReadingOf %v and %v: %v without the phase %d", a, b, r, 180*n)
				}
				r, e = ReadingOf(b, a, 5)
				want(t, "error of ReadingOf", e, api.OK)
				if d := phaseDistance(r.Phase, 720-180*n); d > r.Error {
					t.Errorf("ReadingOf %v and %v: %v without the phase %d", b, a, r, 720-180*n)
				}
			}
		}
	}
}

// phaseDistance returns the distance of two phases, by going on from one to the other in both ways.
func phaseDistance(a, b int) int {
	for d := range 361 {
		if (a+d-b)%720 == 0 || (a-d-b)%720 == 0 {
			return d
		}
	}
	return 720
}
