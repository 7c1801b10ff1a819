package ray

import (
	"testing"

	"skywave/api"
)

// P5.3

func TestSecantOf(t *testing.T) {
	for _, x := range []struct {
		s      api.RaySky
		launch api.Frac
		secant int
	}{
		{exampleSky(), part(0, 1), 900},
		{exampleSky(), part(1, 4), 1039},
		{exampleSky(), part(1, 2), 1272},
		{exampleSky(), part(99, 100), 3000},
		{exampleSky(), part(10, 11), 2984},
		{exampleSky(), part(91, 100), 3000},
		{sky(1, 1, 0), part(0, 1), 0},
		{sky(1, 1, 0, 1, 0), part(99, 100), 0},
		{sky(1, 1, 1), part(0, 1), 1},
		{sky(1, 1, 1), part(99, 100), 10},
		{sky(1, 1, 1), part(98, 99), 9},
		{sky(1, 1, 1), part(3, 4), 2},
		{sky(1, 1, 1), part(2, 3), 1},
		{sky(1, 1, 9000000), part(0, 1), 3000},
		{sky(1, 1, 9000000), part(99, 100), 3000},
		{sky(1, 1, 8999999), part(0, 1), 2999},
		{sky(1, 1, 8999999), part(1, 100), 3000},
		{sky(1, 1, 810000, 1, 360000), part(1, 4), 1039},
	} {
		n, e := SecantOf(x.s, x.launch)
		want(t, "SecantOf "+FormatSky(x.s), results(x.launch, n, e), results(x.launch, x.secant, api.OK))
	}
}

// P5.9: a ray is reflected up to the secant frequency, the vertical one up to the critical frequency.
func TestSecantLaw(t *testing.T) {
	for seed, s := range goodSkies() {
		next := numbers(seed)
		den := 1 + next(100)
		launch, _ := LaunchOf(den, next(den))
		secant, e := SecantOf(s, launch)
		want(t, "SecantOf", results(e, secant >= 0 && secant <= 3000), results(api.OK, true))
		critical, _ := CriticalOf(s)
		for f := 1; f <= 3000; f += 1 + seed%7 {
			apex, _ := ApexOf(s, f, launch)
			want(t, "whether a ray is reflected in "+FormatSky(s), results(f, launch, apex.Reflected), results(f, launch, f <= secant))
			apex, _ = ApexOf(s, f, part(0, 1))
			want(t, "whether a vertical ray is reflected", results(f, apex.Reflected), results(f, f <= critical))
		}
		for _, f := range []int{secant, secant + 1} {
			if f >= 1 && f <= 3000 {
				reflected := apexByDefinition(s, api.RayShot{Frequency: f, Launch: launch}) < len(s.Slabs)
				want(t, "the secant frequency of "+FormatSky(s), results(f, launch, reflected), results(f, launch, f == secant))
			}
		}
		last := -1
		for k := range 100 {
			launch, _ := LaunchOf(100, k)
			secant, _ := SecantOf(s, launch)
			want(t, "whether a greater launch has no smaller secant frequency", secant >= last, true)
			last = secant
		}
	}
}

func TestLaunchOf(t *testing.T) {
	for _, x := range []struct {
		grid, launch int
		part         api.Frac
	}{
		{4, 0, part(0, 1)},
		{4, 1, part(1, 4)},
		{4, 2, part(1, 2)},
		{4, 3, part(3, 4)},
		{1, 0, part(0, 1)},
		{100, 0, part(0, 1)},
		{100, 1, part(1, 100)},
		{100, 50, part(1, 2)},
		{100, 64, part(16, 25)},
		{100, 99, part(99, 100)},
		{97, 96, part(96, 97)},
		{90, 84, part(14, 15)},
	} {
		launch, e := LaunchOf(x.grid, x.launch)
		want(t, "LaunchOf", results(x.grid, x.launch, launch, e), results(x.grid, x.launch, x.part, api.OK))
	}
	for grid := 1; grid <= 100; grid++ {
		for k := range grid {
			launch, e := LaunchOf(grid, k)
			if e != api.OK || !isSame(launch, ratio(k, grid)) {
				t.Errorf("LaunchOf %d, %d: %v, %d", grid, k, launch, e)
			}
		}
		for _, k := range outsideOf(0, grid-1) {
			launch, e := LaunchOf(grid, k)
			refused(t, "LaunchOf a bad launch", api.ErrMissing, launch, e)
		}
	}
	for _, grid := range outsideOf(1, 100) {
		for _, k := range append(outsideOf(0, 99), 0, 1, 50) {
			launch, e := LaunchOf(grid, k)
			refused(t, "LaunchOf a bad grid", api.ErrRange, launch, e)
		}
	}
}

func TestSkipOf(t *testing.T) {
	skip := func(lo, hi, launch int) api.RaySkip {
		return api.RaySkip{Distance: rangeOf(lo, hi), Launch: launch}
	}
	for _, x := range []struct {
		s               api.RaySky
		frequency, grid int
		skip            api.RaySkip
	}{
		{simpleSky(), 1000, 4, skip(11546, 11548, 1)},
		{simpleSky(), 1272, 4, skip(20000, 20000, 2)},
		{simpleSky(), 1273, 4, skip(34640, 34642, 3)},
		{simpleSky(), 900, 4, skip(0, 0, 0)},
		{simpleSky(), 900, 1, skip(0, 0, 0)},
		{simpleSky(), 1, 100, skip(0, 0, 0)},
		{exampleSky(), 1000, 4, skip(25706, 25712, 1)},
		// Two launches have the same upper end; the lower end of the second one is smaller, or not.
		{sky(3, 1, 192, 1, 290, 1, 289), 22, 4, skip(1038, 1040, 2)},
		{sky(4, 2, 141, 3, 285, 3, 272), 23, 4, skip(1384, 1386, 2)},
		{sky(4, 3, 185, 1, 177, 1, 286), 17, 12, skip(672, 678, 1)},
		// The ends are those of different launches: 1198 to 1202 and 1200 to 1200, 598 to 602 and 600 to 600.
		{sky(3, 3, 126, 2, 272, 1, 266), 20, 5, skip(1198, 1200, 4)},
		{sky(3, 1, 214, 1, 287, 3, 349), 19, 8, skip(598, 600, 4)},
	} {
		skip, e := SkipOf(x.s, x.frequency, x.grid)
		want(t, "SkipOf "+FormatSky(x.s), results(x.frequency, x.grid, skip, e), results(x.frequency, x.grid, x.skip, api.OK))
	}
	for _, x := range []struct {
		s               api.RaySky
		frequency, grid int
	}{
		{simpleSky(), 901, 1},
		{simpleSky(), 1801, 4},
		{simpleSky(), 3000, 2},
		{sky(1, 1, 0), 1, 100},
	} {
		skip, e := SkipOf(x.s, x.frequency, x.grid)
		refused(t, "SkipOf what escapes", api.ErrNone, skip, e)
	}
}

// P5.12, and by the definition.
func TestSkipOfByDefinition(t *testing.T) {
	counts := map[string]int{}
	for seed, s := range goodSkies() {
		next := numbers(seed + 31)
		for range 6 {
			f, grid := 1+next(3000), 1+next(100)
			if critical, _ := CriticalOf(s); next(3) > 0 {
				f = min(3000, critical+1+next(1+critical/4))
			}
			expected, found, first := api.RaySkip{}, false, 0
			for k := range grid {
				launch, _ := LaunchOf(grid, k)
				ground, e := GroundOf(s, f, launch)
				if e != api.OK {
					continue
				}
				if !found {
					expected, found, first = api.RaySkip{Distance: ground, Launch: k}, true, k
				}
				expected.Distance.Lo = min(expected.Distance.Lo, ground.Lo)
				if ground.Hi < expected.Distance.Hi {
					expected.Distance.Hi, expected.Launch = ground.Hi, k
				}
			}
			skip, e := SkipOf(s, f, grid)
			if !found {
				counts["none"]++
				refused(t, "SkipOf", api.ErrNone, skip, e)
				continue
			}
			want(t, "SkipOf "+FormatSky(s), results(f, grid, skip, e), results(f, grid, expected, api.OK))
			if skip.Launch > first {
				counts["later"]++
			}
			for k := range grid {
				launch, _ := LaunchOf(grid, k)
				if ground, e := GroundOf(s, f, launch); e == api.OK && ground.Lo < skip.Distance.Lo {
					t.Errorf("SkipOf %s: the launch %d lands nearer: %v, %v", FormatSky(s), k, ground, skip)
				}
			}
		}
	}
	if counts["none"] < 20 || counts["later"] < 100 {
		t.Error("skips:", counts)
	}
}
