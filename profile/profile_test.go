package profile

import (
	"testing"

	"skywave/api"
)

// goodSkies are valid profiles, with the ends of all ranges.
func goodSkies() []api.ProfileSky {
	list := []api.ProfileSky{exampleSky(), lastSky(), sky(0, 0, 0), sky(0, 9000000, 500), sky(500, 0, 500), sky(500, 9000000, 0)}
	for seed := range 300 {
		list = append(list, irregularSky(seed))
		p, _ := risingSky(seed)
		list = append(list, p)
	}
	return list
}

// squareByDefinition returns the square at a height, by the borders of all slabs.
func squareByDefinition(p api.ProfileSky, height int) int {
	for i, slab := range p.Slabs {
		lower := p.Base
		for _, below := range p.Slabs[:i] {
			lower += below.Thickness
		}
		if lower <= height && height < lower+slab.Thickness {
			return slab.Square
		}
	}
	return 0
}

// P4.1

func TestCheckProfile(t *testing.T) {
	for _, p := range goodSkies() {
		slab, e := CheckProfile(p)
		want(t, "CheckProfile", results(slab, e), results(0, api.OK))
	}
	for _, x := range badSkies() {
		slab, e := CheckProfile(x.p)
		want(t, "CheckProfile of "+start(FormatProfile(x.p)), results(slab, e), results(x.slab, x.e))
	}
}

func TestBadSkies(t *testing.T) {
	for _, x := range badSkies() {
		for _, n := range []int{300, 0, -1, 10001} {
			square, e := PlasmaAt(x.p, n)
			refused(t, "PlasmaAt", x.e, square, e)
			height, slab, e := ReflectedAt(x.p, n)
			refused(t, "ReflectedAt", x.e, height, slab, e)
			virtual, e := VirtualAt(x.p, n)
			refused(t, "VirtualAt", x.e, virtual, e)
		}
		square, slab, e := CriticalOf(x.p)
		refused(t, "CriticalOf", x.e, square, slab, e)
		layers, e := LayersOf(x.p)
		refused(t, "LayersOf", x.e, layers, e)
		content, e := ContentOf(x.p)
		refused(t, "ContentOf", x.e, content, e)
		joined, e := Joined(x.p)
		refused(t, "Joined", x.e, joined.Base, joined.Slabs, e)
		rises, e := IsRising(x.p)
		refused(t, "IsRising", x.e, rises, e)
		for _, other := range badSkies() {
			distance, e := DistanceOf(x.p, other.p)
			refused(t, "DistanceOf two bad ones", x.e, distance, e)
		}
		distance, e := DistanceOf(x.p, exampleSky())
		refused(t, "DistanceOf a bad one", x.e, distance, e)
		distance, e = DistanceOf(exampleSky(), x.p)
		refused(t, "DistanceOf to a bad one", x.e, distance, e)
		for _, frequencies := range [][]int{nil, {300}, {0}, repeated(9, 1)} {
			trace, at, e := TraceOf(x.p, frequencies)
			refused(t, "TraceOf", x.e, trace.Points, trace.After, trace.Width, at, e)
		}
		for _, trace := range []api.ProfileTrace{exampleTrace(), {}, {Points: make([]api.ProfilePoint, 9)}} {
			answers, e := AgreesWith(x.p, trace)
			refused(t, "AgreesWith", x.e, answers, e)
		}
	}
}

func TestPlasmaAt(t *testing.T) {
	for height, expected := range map[int]int{0: 0, 99: 0, 100: 90000, 119: 90000, 120: 250000, 129: 250000, 130: 0, 10000: 0} {
		square, e := PlasmaAt(exampleSky(), height)
		want(t, "PlasmaAt", results(height, square, e), results(height, expected, api.OK))
	}
	for i, p := range goodSkies() {
		for height := i % 7; height <= 10000; height += 7 {
			square, e := PlasmaAt(p, height)
			if square != squareByDefinition(p, height) || e != api.OK {
				t.Fatalf("PlasmaAt %d of %s: %d, %d", height, FormatProfile(p), square, e)
			}
		}
		for _, height := range outsideOf(0, 10000) {
			square, e := PlasmaAt(p, height)
			refused(t, "PlasmaAt outside", api.ErrRange, square, e)
		}
	}
}

// At a border on which slabs of the thickness 0 lie, the square is that of the slab above them.
func TestPlasmaAtBorders(t *testing.T) {
	p := sky(10, 7, 0, 1, 5, 8, 0, 9, 0, 2, 5, 6, 0)
	for height, expected := range map[int]int{9: 0, 10: 1, 14: 1, 15: 2, 19: 2, 20: 0} {
		square, e := PlasmaAt(p, height)
		want(t, "PlasmaAt", results(height, square, e), results(height, expected, api.OK))
	}
	square, e := PlasmaAt(sky(0, 5, 1), 0)
	want(t, "PlasmaAt the ground", results(square, e), results(5, api.OK))
}

func TestCriticalOf(t *testing.T) {
	for _, x := range []struct {
		p            api.ProfileSky
		square, slab int
	}{
		{exampleSky(), 250000, 1},
		{sky(0, 0, 10, 90000, 20, 40000, 5, 250000, 10), 250000, 3},
		{sky(0, 5, 1, 7, 0, 7, 9, 6, 1), 7, 1},
		{sky(0, 7, 1, 7, 5, 7, 9), 7, 0},
		{sky(0, 0, 0), 0, 0},
		{sky(0, 0, 0, 0, 4), 0, 0},
		{sky(9, 9000000, 0, 8999999, 4), 9000000, 0},
		{sky(9, 8999999, 0, 9000000, 4), 9000000, 1},
	} {
		square, slab, e := CriticalOf(x.p)
		want(t, "CriticalOf "+FormatProfile(x.p), results(square, slab, e), results(x.square, x.slab, api.OK))
	}
	for _, p := range goodSkies() {
		square, slab, _ := CriticalOf(p)
		want(t, "the square of the slab", p.Slabs[slab].Square, square)
		for i, other := range p.Slabs {
			if other.Square > square || i < slab && other.Square == square {
				t.Errorf("CriticalOf %s: %d in %d", FormatProfile(p), square, slab)
			}
		}
	}
}

func TestLayersOf(t *testing.T) {
	for _, x := range []struct {
		p      api.ProfileSky
		layers []int
	}{
		{sky(0, 0, 10, 90000, 20, 40000, 5, 250000, 10), []int{1, 3}},
		{exampleSky(), []int{1}},
		{sky(0, 9, 1), []int{0}},
		{sky(0, 9, 0), nil},
		{sky(0, 0, 9), nil},
		{sky(0, 1, 9, 0, 9, 1, 9), []int{0, 2}},
		{sky(0, 5, 1, 5, 1), nil},
		{sky(0, 4, 1, 5, 1, 5, 1, 4, 1), nil},
		{sky(0, 5, 1, 9, 0, 4, 1, 9, 0), []int{0}},
		{sky(0, 5, 1, 1, 0, 5, 1), nil},
		{sky(0, 4, 1, 5, 1, 9, 0, 4, 1, 0, 0, 6, 7), []int{1, 5}},
		{sky(0, 3, 1, 2, 1, 1, 1), []int{0}},
		{sky(0, 9, 0, 3, 1, 9, 0), []int{1}},
		{sky(0, 2, 1, 3, 1, 3, 0, 2, 1), []int{1}},
	} {
		layers, e := LayersOf(x.p)
		want(t, "LayersOf "+FormatProfile(x.p), results(layers, e), results(x.layers, api.OK))
	}
}

// The square of a layer is greater than those of the kilometre below it and of the one above it.
func TestLayersOfByHeights(t *testing.T) {
	for _, p := range goodSkies() {
		layers, e := LayersOf(p)
		want(t, "LayersOf", e, api.OK)
		var expected []int
		lower := p.Base
		for i, slab := range p.Slabs {
			upper := lower + slab.Thickness
			before, after := 0, squareByDefinition(p, upper)
			if lower > 0 {
				before = squareByDefinition(p, lower-1)
			}
			if slab.Thickness > 0 && slab.Square > before && slab.Square > after {
				expected = append(expected, i)
			}
			lower = upper
		}
		want(t, "LayersOf "+FormatProfile(p), layers, expected)
	}
}

func TestContentOf(t *testing.T) {
	for _, x := range []struct {
		p       api.ProfileSky
		content int
	}{
		{sky(0, 0, 10, 90000, 20, 40000, 5, 250000, 10), 4500000},
		{exampleSky(), 4300000},
		{sky(500, 9000000, 500), 4500000000},
		{sky(500, 9000000, 0, 0, 500), 0},
		{sky(0, 9000000, 500, 9000000, 500, 9000000, 500, 9000000, 500, 9000000, 500, 9000000, 500, 9000000, 500, 9000000, 500, 9000000, 500, 9000000, 500, 9000000, 500, 9000000, 500), 54000000000},
	} {
		content, e := ContentOf(x.p)
		want(t, "ContentOf "+FormatProfile(x.p), results(content, e), results(x.content, api.OK))
	}
	for _, p := range goodSkies() {
		sum := 0
		for height := range 6501 {
			sum += squareByDefinition(p, height)
		}
		content, e := ContentOf(p)
		want(t, "ContentOf by kilometres", results(content, e), results(sum, api.OK))
	}
}

func TestJoined(t *testing.T) {
	for _, x := range []struct{ before, after api.ProfileSky }{
		{sky(7, 4, 2, 4, 0, 4, 3, 9, 499, 9, 2), sky(7, 4, 5, 9, 499, 9, 2)},
		{sky(7, 9, 499, 9, 1), sky(7, 9, 500)},
		{sky(7, 9, 300, 9, 300, 9, 100, 9, 100, 9, 1), sky(7, 9, 300, 9, 500, 9, 1)},
		{sky(7, 4, 2, 5, 0, 4, 3), sky(7, 4, 5)},
		{sky(7, 4, 2, 5, 1, 4, 3), sky(7, 4, 2, 5, 1, 4, 3)},
		{sky(7, 4, 0, 5, 0, 6, 0), sky(7, 4, 0)},
		{sky(7, 4, 0, 4, 0), sky(7, 4, 0)},
		{sky(0, 4, 0), sky(0, 4, 0)},
		{sky(0, 4, 0, 5, 1, 6, 0), sky(0, 5, 1)},
		{sky(0, 0, 5, 0, 5, 1, 5), sky(0, 0, 10, 1, 5)},
		{exampleSky(), exampleSky()},
		{sky(3, repeated(24, 1)...), sky(3, 1, 12)},
	} {
		p, e := Joined(x.before)
		want(t, "Joined "+FormatProfile(x.before), results(FormatProfile(p), e), results(FormatProfile(x.after), api.OK))
	}
	for _, p := range goodSkies() {
		joined, _ := Joined(p)
		again, e := Joined(joined)
		want(t, "Joined twice", results(again, e), results(joined, api.OK))
		_, e = CheckProfile(joined)
		want(t, "CheckProfile of Joined", e, api.OK)
		for i, slab := range joined.Slabs {
			if slab.Thickness == 0 && len(joined.Slabs) > 1 {
				t.Errorf("Joined leaves a slab of the thickness 0: %v", joined)
			}
			if i > 0 && slab.Square == joined.Slabs[i-1].Square && slab.Thickness+joined.Slabs[i-1].Thickness <= 500 {
				t.Errorf("Joined leaves slabs that could be joined: %v", joined)
			}
		}
	}
}

func TestIsRising(t *testing.T) {
	for _, x := range []struct {
		p     api.ProfileSky
		rises bool
	}{
		{exampleSky(), true},
		{sky(0, 0, 0), true},
		{sky(0, 0, 1, 1, 1), true},
		{sky(0, 5, 1, 5, 1), false},
		{sky(0, 5, 1, 4, 1), false},
		{sky(0, 5, 1, 5, 0, 6, 1), false},
		{sky(0, 5, 1, 4, 0, 6, 1), false},
		{sky(0, 1, 1, 2, 1, 3, 1, 3, 1), false},
		{sky(0, 1, 1, 3, 1, 2, 1, 4, 1), false},
		{sky(0, 1, 0, 2, 0, 3, 0, 9000000, 0), true},
	} {
		rises, e := IsRising(x.p)
		want(t, "IsRising "+FormatProfile(x.p), results(rises, e), results(x.rises, api.OK))
	}
	for seed := range 50 {
		p, _ := risingSky(seed)
		rises, e := IsRising(p)
		want(t, "IsRising", results(rises, e), results(true, api.OK))
	}
}

func TestDistanceOf(t *testing.T) {
	for _, x := range []struct {
		a, b     api.ProfileSky
		distance int
	}{
		{exampleSky(), sky(101, 90000, 20, 250000, 10), 500000},
		{exampleSky(), exampleSky(), 0},
		{sky(0, 5, 1), sky(0, 7, 1), 2},
		{sky(0, 5, 1), sky(1, 5, 1), 10},
		{sky(0, 5, 3), sky(0, 5, 1), 10},
		{sky(0, 5, 0), sky(500, 7, 0), 0},
		{sky(0, 5, 0), sky(500, 7, 3), 21},
		{sky(0, 0, 500), sky(0, 9000000, 500), 4500000000},
		{sky(0, 1, 500), sky(0, 3, 500), 1000},
		{sky(500, repeated(24, 500)...), sky(0, 0, 0), 12 * 500 * 500},
	} {
		distance, e := DistanceOf(x.a, x.b)
		want(t, "DistanceOf "+FormatProfile(x.a)+" and "+FormatProfile(x.b), results(distance, e), results(x.distance, api.OK))
		distance, e = DistanceOf(x.b, x.a)
		want(t, "DistanceOf in the other direction", results(distance, e), results(x.distance, api.OK))
	}
}

// P4.12

func TestDistances(t *testing.T) {
	list := goodSkies()
	for i, a := range list {
		b, c := list[(i*7+1)%len(list)], list[(i*11+5)%len(list)]
		sum := 0
		for height := range 6501 {
			difference := squareByDefinition(a, height) - squareByDefinition(b, height)
			sum += max(difference, -difference)
		}
		ab, e := DistanceOf(a, b)
		want(t, "DistanceOf", results(ab, e), results(sum, api.OK))
		ba, _ := DistanceOf(b, a)
		want(t, "DistanceOf in both directions", ab, ba)
		ac, _ := DistanceOf(a, c)
		bc, _ := DistanceOf(b, c)
		if ab > ac+bc {
			t.Errorf("the distance %d is more than %d and %d to a third one", ab, ac, bc)
		}
		zero, _ := DistanceOf(a, a)
		want(t, "DistanceOf itself", zero, 0)
	}
}

func TestJoinedIsTheSame(t *testing.T) {
	for _, p := range goodSkies() {
		joined, e := Joined(p)
		want(t, "Joined", results(joined.Base, e), results(p.Base, api.OK))
		distance, _ := DistanceOf(p, joined)
		want(t, "DistanceOf the joined one", distance, 0)
		content, _ := ContentOf(p)
		same, _ := ContentOf(joined)
		want(t, "ContentOf the joined one", same, content)
		for i := range p.Slabs {
			p.Slabs[i].Thickness = max(1, p.Slabs[i].Thickness)
		}
		joined, _ = Joined(p)
		for f := 1; f <= 3000; f += 13 {
			virtual, e := VirtualAt(p, f)
			height, _, _ := ReflectedAt(p, f)
			sameVirtual, sameError := VirtualAt(joined, f)
			sameHeight, _, _ := ReflectedAt(joined, f)
			want(t, "heights of the joined one", results(sameVirtual, sameHeight, sameError), results(virtual, height, e))
		}
	}
}
