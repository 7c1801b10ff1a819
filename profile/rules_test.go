package profile

import (
	"fmt"
	"testing"

	"skywave/api"
)

// R3: results share memory neither with arguments nor with one another, and arguments are not modified.

func TestArgumentsStay(t *testing.T) {
	p, x, frequencies := exampleSky(), withValley(exampleTrace(), 0, 10), []int{300, 500}
	same, flat := sky(5, 7, 1, 7, 1), sky(5, 7, 0)
	plain := exampleTrace()
	show := func() string { return fmt.Sprint(p, x, frequencies, same, flat, plain) }
	before := show()

	CheckProfile(p)
	ReflectedAt(p, 500)
	VirtualAt(p, 500)
	PlasmaAt(p, 120)
	CriticalOf(p)
	ContentOf(p)
	DistanceOf(p, same)
	IsRising(p)
	CheckTrace(x)
	trace, _, _ := TraceOf(p, frequencies)
	slabs, _, _ := Laminated(x)
	heights, _ := HeightsOf(x)
	fitted, _, _ := Fitted(plain)
	answers, _ := AgreesWith(p, x)
	layers, _ := LayersOf(p)
	want(t, "arguments after all calls", show(), before)

	for _, sky := range []api.ProfileSky{p, same, flat} {
		joined, _ := Joined(sky)
		want(t, "arguments after Joined", show(), before)
		spoil(joined.Slabs, api.ProfileSlab{Square: 77})
	}
	spoil(trace.Points, api.ProfilePoint{Frequency: 77})
	spoil(slabs, rangeOf(77, 77))
	spoil(heights, rangeOf(77, 77))
	spoil(fitted.Slabs, api.ProfileSlab{Square: 77})
	spoil(answers, 77)
	spoil(layers, 77)
	want(t, "arguments after results were changed", show(), before)
}

// R4: a call does not depend on what was done with the results of an earlier one.
func TestResultsAreNew(t *testing.T) {
	for range 2 {
		p, _ := ParseProfile(exampleSkyText)
		want(t, "ParseProfile", p, exampleSky())
		joined, _ := Joined(p)
		want(t, "Joined", joined, exampleSky())
		spoil(joined.Slabs, api.ProfileSlab{Square: 77})
		want(t, "the profile that was joined", p, exampleSky())
		spoil(p.Slabs, api.ProfileSlab{Square: 77})
		x, _ := ParseTrace("0 0;300 99 101;500 124 126")
		want(t, "ParseTrace", x, exampleTrace())
		heights, _ := HeightsOf(x)
		spoil(heights, rangeOf(77, 77))
		want(t, "the trace of which the heights were found", x, exampleTrace())
		spoil(x.Points, api.ProfilePoint{})
	}
}
