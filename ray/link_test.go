package ray

import (
	"testing"

	"skywave/api"
)

// linkOf returns a link.
func linkOf(up, down api.RaySky) api.RayLink { return api.RayLink{Up: up, Down: down} }

// withSquares returns a sky with other squares.
func withSquares(s api.RaySky, squares ...int) api.RaySky {
	other := api.RaySky{Height: s.Height}
	for i, slab := range s.Slabs {
		other.Slabs = append(other.Slabs, api.RaySlab{Thickness: slab.Thickness, Square: squares[i]})
	}
	return other
}

// exampleLink is the link of the chapter's ninth example.
func exampleLink() api.RayLink { return linkOf(exampleSky(), withSquares(exampleSky(), 0, 0, 0)) }

// irregularLink returns a valid link, of which both skies are often alike.
func irregularLink(seed int) api.RayLink {
	next := numbers(seed + 900)
	up := irregularSky(seed)
	squares := make([]int, len(up.Slabs))
	for i, slab := range up.Slabs {
		squares[i] = slab.Square
		if next(2) == 0 {
			squares[i] = slab.Square * next(100) / 80
		}
		squares[i] = min(squares[i], 9000000)
	}
	return linkOf(up, withSquares(up, squares...))
}

// P5.6

func TestCheckLink(t *testing.T) {
	good := []api.RayLink{exampleLink(), linkOf(simpleSky(), simpleSky()), linkOf(lastSky(), lastSky()), linkOf(sky(1, 1, 0), sky(1, 1, 9000000))}
	for seed := range 50 {
		good = append(good, irregularLink(seed))
	}
	for _, l := range good {
		slab, e := CheckLink(l)
		want(t, "CheckLink", results(l, slab, e), results(l, 0, api.OK))
	}
	for _, x := range badLinks() {
		slab, e := CheckLink(x.l)
		want(t, "CheckLink "+start(FormatSky(x.l.Up))+" and "+start(FormatSky(x.l.Down)), results(slab, e), results(x.slab, x.e))
		mirror, e := MirrorOf(x.l)
		refused(t, "MirrorOf a bad link", x.e, mirror, e)
		for _, r := range []api.RayShot{aimed(1000, 1, 4), {}, aimed(0, 2, 4)} {
			distance, e := DistanceOf(x.l, r)
			refused(t, "DistanceOf a bad link", x.e, distance, e)
		}
	}
}

func TestMirrorOf(t *testing.T) {
	mirror, e := MirrorOf(exampleLink())
	want(t, "MirrorOf", results(mirror, e), results(linkOf(withSquares(exampleSky(), 0, 0, 0), exampleSky()), api.OK))
	for seed := range 200 {
		l := irregularLink(seed)
		mirror, e := MirrorOf(l)
		want(t, "MirrorOf", results(mirror, e), results(linkOf(l.Down, l.Up), api.OK))
		again, e := MirrorOf(mirror)
		want(t, "MirrorOf the mirror", results(again, e), results(l, api.OK))
	}
}

func TestDistanceOf(t *testing.T) {
	s := exampleSky()
	for _, x := range []struct {
		l        api.RayLink
		r        api.RayShot
		distance api.Range
	}{
		{exampleLink(), aimed(1000, 1, 4), rangeOf(24398, 24404)},
		{linkOf(s, s), aimed(1000, 1, 4), rangeOf(25706, 25712)},
		{linkOf(simpleSky(), sky(100, 50, 0)), aimed(1000, 1, 2), rangeOf(20000, 20000)},
		{linkOf(simpleSky(), sky(100, 50, 9000000)), aimed(1000, 1, 2), rangeOf(20000, 20000)},
		{exampleLink(), aimed(900, 0, 1), rangeOf(0, 0)},
		// The sky at the end need not reflect at the apex or above; it must let pass below.
		{linkOf(s, withSquares(s, 90000, 360000, 0)), aimed(1000, 1, 4), rangeOf(25706, 25712)},
		{linkOf(s, withSquares(s, 0, 0, 9000000)), aimed(1000, 1, 4), rangeOf(24398, 24404)},
		{linkOf(s, withSquares(s, 749999, 0, 0)), aimed(1000, 1, 4), rangeOf(2521512, 2521517)},
		{linkOf(s, withSquares(s, 0, 9000000, 9000000)), aimed(1000, 16, 25), rangeOf(41030, 41034)},
		{linkOf(s, withSquares(s, 9000000, 0, 0)), aimed(1000, 91, 100), rangeOf(63594, 63596)},
	} {
		distance, e := DistanceOf(x.l, x.r)
		want(t, "DistanceOf", results(x.l, x.r, distance, e), results(x.l, x.r, x.distance, api.OK))
	}
}

func TestDistanceOfErrors(t *testing.T) {
	s := exampleSky()
	for _, x := range []struct {
		l api.RayLink
		r api.RayShot
		e api.Errno
	}{
		{linkOf(exampleLink().Down, s), aimed(1000, 1, 4), api.ErrOpen},
		{linkOf(s, s), aimed(1000, 9, 50), api.ErrOpen},
		{linkOf(s, s), aimed(901, 0, 1), api.ErrOpen},
		{linkOf(withSquares(s, 0, 0, 0), withSquares(s, 9000000, 0, 0)), aimed(1000, 1, 4), api.ErrOpen},
		{linkOf(s, withSquares(s, 810000, 0, 0)), aimed(1000, 1, 4), api.ErrBreak},
		{linkOf(s, withSquares(s, 0, 810000, 0)), aimed(1000, 1, 4), api.ErrBreak},
		{linkOf(s, withSquares(s, 9000000, 9000000, 810000)), aimed(1000, 1, 4), api.ErrBreak},
		{linkOf(s, withSquares(s, 750000, 0, 0)), aimed(1000, 1, 4), api.ErrBreak},
		{linkOf(s, withSquares(s, 0, 750000, 0)), aimed(1000, 1, 4), api.ErrBreak},
		{linkOf(s, withSquares(s, 360000, 0, 0)), aimed(1000, 16, 25), api.ErrBreak},
		{linkOf(s, s), aimed(0, 1, 4), api.ErrRange},
		{linkOf(s, s), aimed(3001, 2, 4), api.ErrRange},
		{linkOf(s, s), aimed(1000, 2, 4), api.ErrForm},
		{linkOf(withSquares(s, 0, 0, 0), s), aimed(1000, 5, 4), api.ErrRange},
	} {
		distance, e := DistanceOf(x.l, x.r)
		refused(t, "DistanceOf", x.e, distance, e)
	}
}

// checkDistance checks the distance of a link by its definition: the legs of each sky, as if it were free above the apex.
func checkDistance(t *testing.T, l api.RayLink, r api.RayShot) api.Errno {
	t.Helper()
	distance, e := DistanceOf(l, r)
	apex := apexByDefinition(l.Up, r)
	if apex == len(l.Up.Slabs) {
		refused(t, "DistanceOf what escapes", api.ErrOpen, distance, e)
		return e
	}
	if apexByDefinition(l.Down, r) < apex {
		refused(t, "DistanceOf what is reflected on its way down", api.ErrBreak, distance, e)
		return e
	}
	var sum api.Range
	for _, s := range []api.RaySky{l.Up, l.Down} {
		legs, _ := LegsOf(s, r.Frequency, r.Launch)
		for _, leg := range legs[:apex+1] {
			sum = rangeOf(sum.Lo+leg.Lo, sum.Hi+leg.Hi)
		}
	}
	want(t, "DistanceOf", results(l, r, distance, e), results(l, r, sum, api.OK))
	return e
}

func TestDistanceOfByDefinition(t *testing.T) {
	counts := map[api.Errno]int{}
	for seed := range 400 {
		l := irregularLink(seed)
		for _, r := range goodShots(l.Up, seed) {
			counts[checkDistance(t, l, r)]++
		}
	}
	for _, e := range []api.Errno{api.OK, api.ErrOpen, api.ErrBreak} {
		if counts[e] < 100 {
			t.Error("links:", counts)
		}
	}
}

// P5.13

func TestEqualSkies(t *testing.T) {
	for seed, s := range goodSkies() {
		for _, r := range goodShots(s, seed) {
			ground, groundError := GroundOf(s, r.Frequency, r.Launch)
			distance, e := DistanceOf(linkOf(s, s), r)
			want(t, "the distance of a link with equal skies", results(distance, e), results(ground, groundError))
		}
	}
}

func TestMirrorsOfLinks(t *testing.T) {
	same := 0
	for seed := range 400 {
		l := irregularLink(seed)
		mirror, _ := MirrorOf(l)
		for _, r := range goodShots(l.Up, seed) {
			up, _ := ApexOf(l.Up, r.Frequency, r.Launch)
			down, _ := ApexOf(l.Down, r.Frequency, r.Launch)
			if !up.Reflected || up != down {
				continue
			}
			distance, e := DistanceOf(l, r)
			mirrored, mirrorError := DistanceOf(mirror, r)
			want(t, "the distance of the mirror", results(mirrored, mirrorError, e), results(distance, api.OK, api.OK))
			if up.Slab > 0 {
				same++
			}
		}
	}
	if same < 100 {
		t.Error("mirrors:", same)
	}
}
