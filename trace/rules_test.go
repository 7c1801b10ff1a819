package trace

import (
	"fmt"
	"testing"

	"skywave/api"
)

// R3: results share memory neither with arguments nor with one another, and arguments are not modified.

func TestArgumentsStay(t *testing.T) {
	g, r, p := exampleGram(), exampleRules(), examplePath()
	x := api.TracePair{A: p, B: path(0, -1, 1, 0)}
	layers, edits, potentials := exampleLayers(), []api.TraceEdit{move(1, 2, 1), remove(2, 0), withdraw(3, 1)}, examplePotentials()
	readings := []api.TraceReading{ordinary(500, 520), extra(580, 590), ordinary(530, 540)}
	show := func() string { return fmt.Sprint(g, r, p, x, layers, edits, potentials, readings) }
	before := show()

	CheckBound(g, r, potentials)
	CostOf(g, r, p)
	LayerOf(g, p, layers)
	HopsOf(g, x, 3)
	CriticalOf(g, p, 181)
	AgreedOf(readings, exampleShift)
	cheapest, _, _ := Cheapest(g, r)
	numbers, _ := PotentialsOf(g, r)
	seen, _ := SeenIn(g, p, 0)
	points, _ := PointsOf(g, p)
	merged, _ := Merged(edits, nil)
	behind, _ := Merged(nil, edits)
	corrected, _ := Corrected(g, p, edits)
	same, _ := Corrected(g, p, nil)
	made, _ := EditsOf(g, x, api.TraceEdit{Number: 1, By: "ann"})
	set, _ := Contradicting(readings, exampleShift)
	want(t, "arguments after all calls", show(), before)

	spoil(cheapest.Rows, 77)
	for _, list := range numbers {
		spoil(list, 77)
	}
	spoil(seen, 77)
	spoil(points, api.TracePoint{Frequency: 77})
	for _, list := range [][]api.TraceEdit{merged, behind, made} {
		spoil(list, api.TraceEdit{Number: 77})
	}
	spoil(corrected.Rows, 77)
	spoil(same.Rows, 77)
	spoil(set, 77)
	want(t, "arguments after results were changed", show(), before)
}

func TestPartsShareNothing(t *testing.T) {
	for column := range 3 {
		potentials, _ := PotentialsOf(exampleGram(), exampleRules())
		expected, _ := PotentialsOf(exampleGram(), exampleRules())
		spoil(potentials[column], 77)
		potentials[column] = expected[column]
		want(t, "other columns after one was changed", potentials, expected)

		g, _ := ParseGram(exampleText)
		spoil(g.Columns[column], api.TraceCell{Amplitude: 77})
		g.Columns[column] = exampleGram().Columns[column]
		want(t, "other columns after one was changed", g, exampleGram())
	}
}

// R4: a call does not depend on what was done with the results of an earlier one.
func TestResultsAreNew(t *testing.T) {
	for range 2 {
		p, _, _ := Cheapest(exampleGram(), exampleRules())
		want(t, "Cheapest", p, examplePath())
		spoil(p.Rows, 77)
		g, _ := ParseGram(exampleText)
		want(t, "ParseGram", g, exampleGram())
		spoil(g.Columns, nil)
		q, _ := ParsePath("0 1 1 2")
		want(t, "ParsePath", q, examplePath())
		spoil(q.Rows, 77)
	}
}
