package trace

import (
	"testing"

	"skywave/api"
)

// P3.1

// goodGrams are valid ionograms, with the ends of all ranges.
func goodGrams() []api.TraceGram {
	list := []api.TraceGram{exampleGram(), emptyGram(1, 1), emptyGram(10, 12), emptyGram(1, 12), emptyGram(10, 1)}
	last := emptyGram(10, 12)
	last.First, last.Step = 3000, 3000
	for _, column := range last.Columns {
		for row := range column {
			column[row] = api.TraceCell{Amplitude: 255, Tag: row % 4}
		}
	}
	list = append(list, last)
	for seed := range 40 {
		list = append(list, irregularGram(seed, 1+seed%10, 1+seed%12, false))
	}
	return list
}

func TestCheckGram(t *testing.T) {
	for _, g := range goodGrams() {
		column, e := CheckGram(g)
		want(t, "CheckGram", results(column, e), results(0, api.OK))
	}
	for _, x := range badGrams() {
		column, e := CheckGram(x.g)
		want(t, "CheckGram of "+FormatGram(x.g), results(column, e), results(x.column, x.e))
	}
}

func TestFrequencyAt(t *testing.T) {
	for column, expected := range []int{2000, 2500, 3000} {
		n, e := FrequencyAt(exampleGram(), column)
		want(t, "FrequencyAt", results(n, e), results(expected, api.OK))
	}
	for _, g := range goodGrams() {
		n := g.First
		for column := range g.Columns {
			frequency, e := FrequencyAt(g, column)
			want(t, "FrequencyAt", results(frequency, e), results(n, api.OK))
			n += g.Step
		}
		for _, column := range outsideOf(0, len(g.Columns)-1) {
			frequency, e := FrequencyAt(g, column)
			refused(t, "FrequencyAt without the column", api.ErrMissing, frequency, e)
		}
	}
	for _, x := range badGrams() {
		for _, column := range []int{0, -1, 99} {
			frequency, e := FrequencyAt(x.g, column)
			refused(t, "FrequencyAt of a bad ionogram", x.e, frequency, e)
		}
	}
}
