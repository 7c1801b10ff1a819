package echo

import (
	"fmt"
	"testing"

	"skywave/api"
)

// R3: results share memory neither with arguments nor with one another, and arguments are not modified.

func TestArgumentsStay(t *testing.T) {
	readings, spacings := []api.EchoReading{{Error: 360}, {Spacing: 1, Phase: 9, Error: 1}, {Spacing: 1, Phase: 20, Error: 1}}, []int{9, 1}
	x, y := sampleList(1, 4, 9), sampleList(2, 4, 9)
	frames, turns := [][]api.Gauss{x, y}, []int{0, 0}
	items := []api.EchoItem{{Lag: 1, Power: 1}, {Lag: 2, Power: 2}}
	show := func() string { return fmt.Sprint(readings, spacings, x, y, frames, turns, items) }
	before := show()

	candidates, _ := Candidates(readings[:2])
	ranges, _ := DirectionsOf(readings[:2])
	set, _ := ContradictingIn(readings)
	NextSpacing(readings[:2], spacings, 3)
	LagProduct(x)
	lines, _ := LinesOf(x)
	SumsOf(lines)
	DopplerOf(x)
	echoes, _ := EchoesOf(exampleRules, api.EchoFrame{First: x, Second: y})
	sum, _ := CoherentSum(frames, turns)
	alone, _ := CoherentSum(frames[:1], turns[:1])
	FormatEchoes(items)
	want(t, "arguments after all calls", show(), before)

	spoil(candidates, 77)
	spoil(set, 77)
	spoil(ranges, api.Range{Lo: 77})
	spoil(echoes, api.EchoItem{Lag: 77})
	spoil(sum, re(77))
	spoil(alone, re(77))
	want(t, "arguments after results were changed", show(), before)
}

// spoil overwrites a list as far as its memory reaches.
func spoil[T any](list []T, item T) {
	list = list[:cap(list)]
	for i := range list {
		list[i] = item
	}
}

// R4: a call does not depend on what was done with the results of an earlier one.
func TestResultsAreNew(t *testing.T) {
	for range 2 {
		list, _ := Candidates([]api.EchoReading{{Spacing: 1, Phase: 9, Error: 1}})
		want(t, "Candidates", list, []int{8, 9, 10})
		spoil(list, 77)
		l, _ := EchoesOf(exampleRules, frameOf(0, 4))
		want(t, "FormatEchoes", FormatEchoes(l), "1 16 3 95 135")
		spoil(l, api.EchoItem{Lag: 77})
	}
}
