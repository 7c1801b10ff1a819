package ray

import (
	"fmt"
	"testing"

	"skywave/api"
)

// R3: results share memory neither with arguments nor with one another, and arguments are not modified.

func TestArgumentsStay(t *testing.T) {
	a := goodArguments()
	link := exampleLink()
	show := func() string { return fmt.Sprint(a, link) }
	before := show()
	for _, call := range callsOfSky() {
		call.run(a)
		want(t, "arguments after "+call.name, show(), before)
	}
	shot := aimed(a.frequency, 1, 4)
	CheckSky(a.sky)
	CheckLink(link)
	DistanceOf(link, shot)
	FormatSky(a.sky)
	want(t, "arguments after all calls", show(), before)

	indexes, _ := IndexesOf(a.sky, a.frequency)
	sines, _ := SinesOf(a.sky, a.frequency, a.launch)
	legs, _ := LegsOf(a.sky, a.frequency, a.launch)
	answers, _ := AnswersFor(a.sky, a.task, a.frequency)
	spans, _ := IndexSpans(a.sky, a.frequency, a.field)
	mirror, _ := MirrorOf(link)
	spoil(indexes, part(7, 7))
	spoil(sines, part(7, 7))
	spoil(legs, rangeOf(7, 7))
	spoil(answers, 7)
	spoil(spans, api.Span{Lo: part(7, 7)})
	spoil(mirror.Up.Slabs, api.RaySlab{Thickness: 77})
	spoil(mirror.Down.Slabs, api.RaySlab{Thickness: 77})
	want(t, "arguments after results were changed", show(), before)
}

// The skies of a mirror share no memory even if those of the link do.
func TestMirrorIsNew(t *testing.T) {
	s := exampleSky()
	mirror, _ := MirrorOf(linkOf(s, s))
	spoil(mirror.Up.Slabs, api.RaySlab{Thickness: 77})
	want(t, "the other sky of the mirror", mirror.Down, exampleSky())
	want(t, "the sky of the link", s, exampleSky())
}

// R3: memory beyond the end of a list is not touched.
func TestSpareMemoryStays(t *testing.T) {
	all := []api.RaySlab{{Thickness: 50, Square: 90000}, {Thickness: 50, Square: 360000}, {Thickness: 50, Square: 810000}, {Thickness: 77, Square: 77}}
	a := goodArguments()
	a.sky = api.RaySky{Height: 100, Slabs: all[:3]}
	for _, call := range callsOfSky() {
		call.run(a)
	}
	MirrorOf(linkOf(a.sky, a.sky))
	want(t, "a slab behind the sky", all[3], api.RaySlab{Thickness: 77, Square: 77})
}

// R4: a call does not depend on what was done with the results of an earlier one.
func TestResultsAreNew(t *testing.T) {
	for range 2 {
		s, _ := ParseSky(exampleText)
		want(t, "ParseSky", s, exampleSky())
		indexes, _ := IndexesOf(s, 1000)
		want(t, "IndexesOf", indexes, parts(91, 100, 16, 25, 19, 100))
		spoil(indexes, part(7, 7))
		legs, _ := LegsOf(s, 1000, part(1, 4))
		want(t, "LegsOf", legs, []api.Range{rangeOf(5773, 5774), rangeOf(3077, 3078), rangeOf(4003, 4004)})
		spoil(legs, rangeOf(7, 7))
		want(t, "the sky of which results were changed", s, exampleSky())
		spoil(s.Slabs, api.RaySlab{})
	}
}

// A range over legs or launches may be left early.
func TestRangesAreLeft(t *testing.T) {
	for most := 1; most <= 3; most++ {
		x := shot{exampleSky(), aimed(1000, 1, 4)}
		legs := 0
		for range x.legs {
			legs++
			if legs == most {
				break
			}
		}
		launches := 0
		for range shotsOf(exampleSky(), 1000, 4) {
			launches++
			if launches == most {
				break
			}
		}
		want(t, "legs and launches", results(legs, launches), results(most, most))
	}
}
