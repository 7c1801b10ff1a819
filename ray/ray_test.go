package ray

import (
	"math/big"
	"testing"

	"skywave/api"
)

// P5.1

func TestCheckSky(t *testing.T) {
	for _, s := range goodSkies() {
		slab, e := CheckSky(s)
		want(t, "CheckSky "+FormatSky(s), results(slab, e), results(0, api.OK))
	}
	for _, x := range badSkies() {
		slab, e := CheckSky(x.s)
		want(t, "CheckSky "+start(FormatSky(x.s)), results(slab, e), results(x.slab, x.e))
	}
}

func TestCriticalOf(t *testing.T) {
	for _, x := range []struct {
		s        api.RaySky
		critical int
	}{
		{exampleSky(), 900},
		{simpleSky(), 900},
		{sky(1, 1, 2), 1},
		{sky(1, 1, 0), 0},
		{sky(1, 1, 1), 1},
		{sky(1, 1, 3), 1},
		{sky(1, 1, 4), 2},
		{sky(1, 1, 809999), 899},
		{sky(1, 1, 9000000), 3000},
		{sky(1, 1, 8999999), 2999},
		{sky(1, 1, 16, 1, 9, 1, 4), 4},
		{sky(1, 1, 4, 1, 16, 1, 9), 4},
		{sky(1, 1, 4, 1, 9, 1, 16), 4},
	} {
		n, e := CriticalOf(x.s)
		want(t, "CriticalOf "+FormatSky(x.s), results(n, e), results(x.critical, api.OK))
	}
	for _, s := range goodSkies() {
		n, e := CriticalOf(s)
		most := 0
		for _, slab := range s.Slabs {
			most = max(most, slab.Square)
		}
		if e != api.OK || n*n > most || (n+1)*(n+1) <= most {
			t.Errorf("CriticalOf %s: %d, %d", FormatSky(s), n, e)
		}
	}
}

func TestIndexesOf(t *testing.T) {
	for _, x := range []struct {
		s         api.RaySky
		frequency int
		indexes   []api.Frac
	}{
		{exampleSky(), 1000, parts(91, 100, 16, 25, 19, 100)},
		{exampleSky(), 900, parts(8, 9, 5, 9, 0, 1)},
		{exampleSky(), 600, parts(3, 4, 0, 1, -5, 4)},
		{exampleSky(), 1, parts(-89999, 1, -359999, 1, -809999, 1)},
		{sky(1, 1, 0), 1, parts(1, 1)},
		{sky(1, 1, 0), 3000, parts(1, 1)},
		{sky(1, 1, 1, 1, 9000000, 1, 8999999), 3000, parts(8999999, 9000000, 0, 1, 1, 9000000)},
		{sky(1, 1, 9000000), 1, parts(-8999999, 1)},
		{sky(1, 1, 6), 2, parts(-1, 2)},
	} {
		indexes, e := IndexesOf(x.s, x.frequency)
		want(t, "IndexesOf "+FormatSky(x.s), results(indexes, e), results(x.indexes, api.OK))
	}
	for i, s := range goodSkies() {
		for f := 1 + i%13; f <= 3000; f += 13 {
			indexes, e := IndexesOf(s, f)
			want(t, "IndexesOf", results(len(indexes), e), results(len(s.Slabs), api.OK))
			for k, slab := range s.Slabs {
				if !isSame(indexes[k], ratio(f*f-slab.Square, f*f)) {
					t.Errorf("IndexesOf %d in %s: %v", f, FormatSky(s), indexes)
				}
			}
		}
	}
}

// P5.2

func TestSinesOf(t *testing.T) {
	for _, x := range []struct {
		s     api.RaySky
		r     api.RayShot
		sines []api.Frac
	}{
		{exampleSky(), aimed(1000, 1, 4), parts(25, 91, 25, 64)},
		{exampleSky(), aimed(1000, 16, 25), parts(64, 91)},
		{exampleSky(), aimed(1000, 91, 100), nil},
		{exampleSky(), aimed(1000, 0, 1), parts(0, 1, 0, 1, 0, 1)},
		{exampleSky(), aimed(1000, 1, 10), parts(10, 91, 5, 32, 10, 19)},
		{exampleSky(), aimed(900, 0, 1), parts(0, 1, 0, 1)},
		{exampleSky(), aimed(300, 0, 1), nil},
		{exampleSky(), aimed(301, 0, 1), parts(0, 1)},
		{sky(1, 1, 0), aimed(1, 99, 100), parts(99, 100)},
	} {
		sines, e := SinesOf(x.s, x.r.Frequency, x.r.Launch)
		want(t, "SinesOf "+FormatSky(x.s), results(sines, e), results(x.sines, api.OK))
	}
}

func TestApexOf(t *testing.T) {
	reflected := func(slab, height int) api.RayApex { return api.RayApex{Reflected: true, Slab: slab, Height: height} }
	for _, x := range []struct {
		s    api.RaySky
		r    api.RayShot
		apex api.RayApex
	}{
		{exampleSky(), aimed(1000, 1, 4), reflected(2, 200)},
		{exampleSky(), aimed(1000, 1, 2), reflected(2, 200)},
		{exampleSky(), aimed(1000, 63, 100), reflected(2, 200)},
		{exampleSky(), aimed(1000, 16, 25), reflected(1, 150)},
		{exampleSky(), aimed(1000, 9, 10), reflected(1, 150)},
		{exampleSky(), aimed(1000, 91, 100), reflected(0, 100)},
		{exampleSky(), aimed(1000, 19, 100), reflected(2, 200)},
		{exampleSky(), aimed(1000, 9, 50), api.RayApex{}},
		{exampleSky(), aimed(1000, 1, 10), api.RayApex{}},
		{exampleSky(), aimed(900, 0, 1), reflected(2, 200)},
		{exampleSky(), aimed(901, 0, 1), api.RayApex{}},
		{exampleSky(), aimed(600, 0, 1), reflected(1, 150)},
		{exampleSky(), aimed(300, 0, 1), reflected(0, 100)},
		{exampleSky(), aimed(1, 0, 1), reflected(0, 100)},
		{sky(7, 3, 0, 4, 0), aimed(1, 99, 100), api.RayApex{}},
		{sky(7, 3, 0, 4, 0, 5, 1, 6, 0), aimed(1, 0, 1), reflected(2, 14)},
		{sky(7, 3, 810000, 4, 810000, 5, 9000000), aimed(1000, 19, 100), reflected(0, 7)},
		{sky(7, 3, 810000, 4, 810000, 5, 9000000), aimed(1000, 9, 50), reflected(2, 14)},
	} {
		apex, e := ApexOf(x.s, x.r.Frequency, x.r.Launch)
		want(t, "ApexOf "+FormatSky(x.s), results(x.r, apex, e), results(x.r, x.apex, api.OK))
	}
}

func TestLegsOf(t *testing.T) {
	free, square := rangeOf(5773, 5774), rangeOf(10000, 10000)
	for _, x := range []struct {
		s    api.RaySky
		r    api.RayShot
		legs []api.Range
	}{
		{exampleSky(), aimed(1000, 1, 4), []api.Range{free, rangeOf(3077, 3078), rangeOf(4003, 4004)}},
		{exampleSky(), aimed(1000, 91, 100), []api.Range{rangeOf(31797, 31798)}},
		{exampleSky(), aimed(900, 0, 1), make([]api.Range, 3)},
		{exampleSky(), aimed(3000, 0, 1), make([]api.Range, 4)},
		{simpleSky(), aimed(1000, 1, 2), []api.Range{square}},
		{simpleSky(), aimed(1000, 1, 4), []api.Range{free}},
		{sky(100, 50, 0, 50, 810000), aimed(1000, 1, 2), []api.Range{square, rangeOf(5000, 5000)}},
		{sky(100, 50, 0), aimed(1000, 1, 2), []api.Range{square, rangeOf(5000, 5000)}},
		{sky(1, 1, 0, 2, 0), aimed(1, 4, 5), []api.Range{rangeOf(200, 200), rangeOf(200, 200), rangeOf(400, 400)}},
		{sky(500, 1, 9000000), aimed(1, 1, 2), []api.Range{rangeOf(50000, 50000)}},
		{sky(500, 500, 89999), aimed(3000, 99, 100), []api.Range{rangeOf(497493, 497494), rangeOf(149248115, 149248116)}},
	} {
		legs, e := LegsOf(x.s, x.r.Frequency, x.r.Launch)
		want(t, "LegsOf "+FormatSky(x.s), results(x.r, legs, e), results(x.r, x.legs, api.OK))
	}
}

func TestGroundOf(t *testing.T) {
	for _, x := range []struct {
		s      api.RaySky
		r      api.RayShot
		ground api.Range
	}{
		{exampleSky(), aimed(1000, 1, 4), rangeOf(25706, 25712)},
		{exampleSky(), aimed(900, 0, 1), rangeOf(0, 0)},
		{simpleSky(), aimed(1000, 1, 2), rangeOf(20000, 20000)},
		{simpleSky(), aimed(1000, 1, 4), rangeOf(11546, 11548)},
		{simpleSky(), aimed(1000, 3, 4), rangeOf(34640, 34642)},
		{simpleSky(), aimed(1000, 19, 100), rangeOf(9686, 9688)},
	} {
		ground, e := GroundOf(x.s, x.r.Frequency, x.r.Launch)
		want(t, "GroundOf "+FormatSky(x.s), results(x.r, ground, e), results(x.r, x.ground, api.OK))
	}
	for _, r := range []api.RayShot{aimed(1000, 9, 50), aimed(1000, 0, 1), aimed(901, 0, 1), aimed(3000, 1, 2)} {
		ground, e := GroundOf(exampleSky(), r.Frequency, r.Launch)
		refused(t, "GroundOf what escapes", api.ErrOpen, ground, e)
	}
}

func TestMirrorHeight(t *testing.T) {
	for _, x := range []struct {
		s      api.RaySky
		r      api.RayShot
		height api.Range
	}{
		{simpleSky(), aimed(1000, 1, 2), rangeOf(10000, 10000)},
		{simpleSky(), aimed(1000, 1, 4), rangeOf(9999, 10001)},
		{simpleSky(), aimed(1000, 99, 100), rangeOf(9999, 10001)},
		{exampleSky(), aimed(1000, 1, 4), rangeOf(22262, 22268)},
		{sky(100, 50, 0, 50, 810000), aimed(1000, 1, 2), rangeOf(15000, 15000)},
		{sky(500, 500, 0, 500, 9000000), aimed(3000, 99, 100), rangeOf(99999, 100001)},
	} {
		height, e := MirrorHeight(x.s, x.r.Frequency, x.r.Launch)
		want(t, "MirrorHeight "+FormatSky(x.s), results(x.r, height, e), results(x.r, x.height, api.OK))
	}
	far := sky(500, 500, 89999, 500, 9000000)
	for _, x := range []struct {
		s api.RaySky
		r api.RayShot
		e api.Errno
	}{
		{simpleSky(), aimed(900, 0, 1), api.ErrZero},
		{simpleSky(), aimed(901, 0, 1), api.ErrZero},
		{simpleSky(), aimed(1000, 9, 50), api.ErrOpen},
		{simpleSky(), aimed(3000, 1, 2), api.ErrOpen},
		{sky(500, 500, 89999), aimed(3000, 99, 100), api.ErrOpen},
		{far, aimed(3000, 99, 100), api.ErrLarge},
		{far, aimed(3000, 0, 1), api.ErrZero},
	} {
		height, e := MirrorHeight(x.s, x.r.Frequency, x.r.Launch)
		refused(t, "MirrorHeight "+FormatSky(x.s), x.e, height, e)
	}
}

// The limit of MirrorHeight is one of the upper end.
func TestMirrorHeightOfFarRays(t *testing.T) {
	for _, x := range []struct {
		s      api.RaySky
		ground api.Range
		e      api.Errno
	}{
		{sky(7, 466, 70379, 1, 9000000), rangeOf(1999996, 2000000), api.OK},
		{sky(85, 421, 71155, 1, 9000000), rangeOf(1999996, 2000000), api.OK},
		{sky(187, 448, 63007, 1, 9000000), rangeOf(1999998, 2000002), api.ErrLarge},
		{sky(195, 361, 72125, 1, 9000000), rangeOf(1999998, 2000002), api.ErrLarge},
		{sky(121, 448, 66887, 1, 9000000), rangeOf(2000000, 2000004), api.ErrLarge},
	} {
		ground, groundError := GroundOf(x.s, 3000, part(99, 100))
		want(t, "GroundOf", results(ground, groundError), results(x.ground, api.OK))
		height, e := MirrorHeight(x.s, 3000, part(99, 100))
		want(t, "MirrorHeight", e, x.e)
		want(t, "whether there is a mirror height", height.Lo > 0, x.e == api.OK)
	}
}

// By the definitions, in fractions.
func TestRaysByDefinition(t *testing.T) {
	reflected, far := 0, 0
	for seed, s := range goodSkies() {
		for _, r := range goodShots(s, seed) {
			f, launch := r.Frequency, r.Launch
			passed := apexByDefinition(s, r)
			legs, e := LegsOf(s, f, launch)
			want(t, "LegsOf", results(len(legs), e), results(passed+1, api.OK))
			if !isLeg(legs[0], s.Height, ratio(1, 1), launch) {
				t.Errorf("LegsOf %v in %s: %v", r, FormatSky(s), legs)
			}
			apex := api.RayApex{Reflected: true, Slab: passed, Height: s.Height}
			for k, slab := range s.Slabs[:passed] {
				if !isLeg(legs[k+1], slab.Thickness, indexByDefinition(slab.Square, f, 0, 0), launch) {
					t.Errorf("LegsOf %v in %s: %v", r, FormatSky(s), legs)
				}
				apex.Height += slab.Thickness
			}
			ground, groundError := GroundOf(s, f, launch)
			height, heightError := MirrorHeight(s, f, launch)
			if passed == len(s.Slabs) {
				apex = api.RayApex{}
				refused(t, "GroundOf", api.ErrOpen, ground, groundError)
			} else {
				reflected++
				want(t, "GroundOf", results(ground, groundError), results(doubled(legs), api.OK))
			}
			got, e := ApexOf(s, f, launch)
			want(t, "ApexOf "+FormatSky(s), results(r, got, e), results(r, apex, api.OK))
			expected := mirrorErrorByDefinition(launch, ground, groundError)
			if expected == api.ErrLarge {
				far++
			}
			if expected != api.OK {
				refused(t, "MirrorHeight", expected, height, heightError)
			} else if heightError != api.OK || !isMirrorHeight(height, ground, launch) {
				t.Errorf("MirrorHeight %v in %s: %v, %v", r, FormatSky(s), height, heightError)
			}
		}
	}
	if reflected < 1000 || far < 20 {
		t.Error("reflected:", reflected, "far:", far)
	}
}

func mirrorErrorByDefinition(launch api.Frac, ground api.Range, groundError api.Errno) api.Errno {
	switch {
	case launch.Num == 0:
		return api.ErrZero
	case groundError != api.OK:
		return groundError
	case ground.Hi > 2000000:
		return api.ErrLarge
	}
	return api.OK
}

// isMirrorHeight tells whether a range is the mirror height of a launch with a ground distance.
func isMirrorHeight(height, ground api.Range, launch api.Frac) bool {
	square := func(distance int) *big.Rat {
		half := ratio(distance, 2)
		return half.Mul(half, half).Mul(half, ratio(launch.Den-launch.Num, launch.Num))
	}
	down := ratio(height.Lo*height.Lo, 1).Cmp(square(ground.Lo)) <= 0 && ratio((height.Lo+1)*(height.Lo+1), 1).Cmp(square(ground.Lo)) > 0
	up := ratio(height.Hi*height.Hi, 1).Cmp(square(ground.Hi)) >= 0 && ratio((height.Hi-1)*(height.Hi-1), 1).Cmp(square(ground.Hi)) < 0
	return down && up && height.Lo >= 0 && height.Hi >= 1
}

// P5.8

func TestSnell(t *testing.T) {
	for seed, s := range goodSkies() {
		for _, r := range goodShots(s, seed) {
			launch := ratio(r.Launch.Num, r.Launch.Den)
			indexes, _ := IndexesOf(s, r.Frequency)
			sines, e := SinesOf(s, r.Frequency, r.Launch)
			passed := apexByDefinition(s, r)
			want(t, "SinesOf", results(len(sines), e), results(passed, api.OK))
			for k, sine := range sines {
				product := ratio(sine.Num, sine.Den)
				if !isSame(sine, product) || product.Cmp(ratio(1, 1)) >= 0 || sine.Num < 0 {
					t.Errorf("SinesOf %v in %s: %v", r, FormatSky(s), sine)
				}
				if product.Mul(product, ratio(indexes[k].Num, indexes[k].Den)).Cmp(launch) != 0 {
					t.Errorf("Snell's law for %v in %s: %v", r, FormatSky(s), sine)
				}
			}
			apex, _ := ApexOf(s, r.Frequency, r.Launch)
			if apex.Reflected && ratio(indexes[apex.Slab].Num, indexes[apex.Slab].Den).Cmp(launch) > 0 {
				t.Errorf("the slab of the apex of %v in %s: %v", r, FormatSky(s), apex)
			}
		}
	}
}

// P5.10

func TestLegsOfVerticalRays(t *testing.T) {
	for _, s := range goodSkies() {
		critical, _ := CriticalOf(s)
		for _, f := range []int{1, max(1, critical), min(3000, critical+1), 3000} {
			legs, e := LegsOf(s, f, part(0, 1))
			want(t, "LegsOf", e, api.OK)
			for _, leg := range legs {
				want(t, "a leg of a vertical ray", leg, rangeOf(0, 0))
			}
			ground, e := GroundOf(s, f, part(0, 1))
			want(t, "the ground distance of a vertical ray", results(ground, e == api.OK), results(rangeOf(0, 0), f <= critical))
		}
	}
}

func TestMirrorHeightWithoutPlasma(t *testing.T) {
	for seed := range 300 {
		next := numbers(seed)
		s := sky(1 + next(500))
		for range next(6) {
			s.Slabs = append(s.Slabs, api.RaySlab{Thickness: 1 + next(500)})
		}
		s.Slabs = append(s.Slabs, api.RaySlab{Thickness: 1 + next(500), Square: 9000000})
		den := 2 + next(99)
		launch, _ := LaunchOf(den, 1+next(den-1))
		apex, _ := ApexOf(s, 3000, launch)
		height, e := MirrorHeight(s, 3000, launch)
		if e != api.OK || height.Lo > 100*apex.Height || height.Hi < 100*apex.Height {
			t.Errorf("MirrorHeight %v in %s: %v, %v", launch, FormatSky(s), height, e)
		}
	}
}
