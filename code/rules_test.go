package code

import (
	"fmt"
	"testing"

	"skywave/api"
)

// R3: results share memory neither with arguments nor with one another, and arguments are not modified.

func TestArgumentsStay(t *testing.T) {
	p := api.CodePair{A: []int{1, 1}, B: []int{1, -1}}
	f := api.CodeFrame{Limit: 9, Samples: sampleList(1, 9, 9), Gaps: []int{2, 8}}
	wave, lines := []api.Gauss{re(1), im(-1)}, []int{0, 3}
	l, other := api.CodeLine{Values: sampleList(2, 4, 9), Missing: []int{0, 1, 2, 3}}, lineOf(sampleList(3, 4, 9)...)
	show := func() string { return fmt.Sprint(p, f, wave, lines, l, other) }
	before := show()

	doubled, _ := Doubled(p)
	interleaved, _ := Interleaved(p)
	partners, _ := PartnersOf(p.A)
	codeWave, _ := WaveOf(p.A)
	usable, _ := UsableIn(f)
	compressed, _ := Compressed(f, wave)
	combined, _ := Combined(l, other)
	peaks, _ := PeaksOf(l, api.CodeRule{Budget: 1})
	found, _ := LinesIn([]api.CodeFrame{f}, api.Frac{Num: 1, Den: 9})
	cleaned, _ := Cleaned(f, lines)
	want(t, "arguments after all calls", show(), before)

	for _, list := range [][]int{doubled.A, doubled.B, interleaved.A, interleaved.B, usable, compressed.Missing, combined.Missing, peaks, found, cleaned.Gaps, partners[0]} {
		spoil(list, 77)
	}
	for _, list := range [][]api.Gauss{codeWave, compressed.Values, combined.Values, cleaned.Samples} {
		spoil(list, re(77))
	}
	want(t, "arguments after results were changed", show(), before)
	want(t, "another partner", partners[1], []int{1, -1})
}

// spoil overwrites a list as far as its memory reaches.
func spoil[T any](list []T, item T) {
	list = list[:cap(list)]
	for i := range list {
		list[i] = item
	}
}

func TestResultsAreApart(t *testing.T) {
	p := api.CodePair{A: []int{1, 1}, B: []int{1, -1}}
	doubled, _ := Doubled(p)
	spoil(doubled.A, 77)
	want(t, "the second code of a doubled pair", doubled.B, []int{1, 1, -1, 1})
	interleaved, _ := Interleaved(p)
	spoil(interleaved.A, 77)
	want(t, "the second code of an interleaved pair", interleaved.B, []int{1, -1, 1, 1})
	for range 2 {
		best, _, _ := FirstBest(3)
		want(t, "FirstBest", best, []int{-1, -1, 1})
		spoil(best, 77)
		wave, _ := ChirpWave(api.CodeChirp{Start: 1, Den: 1}, 4)
		want(t, "ChirpWave", wave, []api.Gauss{re(1), im(1), re(-1), im(-1)})
		spoil(wave, re(77))
	}
}
