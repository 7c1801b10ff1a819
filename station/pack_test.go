package station

import (
	"math"
	"slices"
	"testing"

	"skywave/api"
)

// runsByDefinition writes each number and how often it follows itself.
func runsByDefinition(l []int) []int {
	var written []int
	for _, n := range l {
		last := len(written) - 2
		if last >= 0 && written[last] == n {
			written[last+1]++
		} else {
			written = append(written, n, 1)
		}
	}
	return written
}

// packedByDefinition writes a series in all ways.
func packedByDefinition(l []int) api.StationPacked {
	var differences []int
	for i, n := range l {
		if i > 0 {
			n -= l[i-1]
		}
		differences = append(differences, n)
	}
	plain, apart, runs := l, runsByDefinition(differences), runsByDefinition(l)
	switch {
	case len(plain) <= len(apart) && len(plain) <= len(runs):
		return packed(api.StationPlain, plain...)
	case len(apart) <= len(runs):
		return packed(api.StationDifferences, apart...)
	}
	return packed(api.StationRuns, runs...)
}

// goodSeries are valid series, among them all short ones of three numbers.
func goodSeries() [][]int {
	list := [][]int{nil, {}}
	for size := 1; size <= 7; size++ {
		total := int(math.Pow(3, float64(size)))
		for code := range total {
			var l []int
			for range size {
				l = append(l, code%3)
				code /= 3
			}
			list = append(list, l)
		}
	}
	rising := make([]int, 200)
	for i := range rising {
		rising[i] = 1000000000 - 5*i
	}
	list = append(list, rising, manyOf(7, 200), make([]int, 200), manyOf(-1000000000, 200),
		[]int{1000000000, -1000000000, 1000000000}, []int{-1000000000, 1000000000, 1000000000, 1000000000, 1000000000})
	for seed := range 80 {
		next := numbers(seed + 200)
		var l []int
		number, step := next(100)-50, 0
		for range 1 + next(60) {
			step = step*next(2) + next(5)%3 - 1
			for range 1 + next(4) {
				number += step * (seed % 3)
				l = append(l, number)
			}
		}
		list = append(list, l[:min(len(l), 200)])
	}
	return list
}

// P9.3

func TestPacked(t *testing.T) {
	for _, x := range []struct {
		l []int
		p api.StationPacked
	}{
		{nil, packed(api.StationPlain)},
		{[]int{}, packed(api.StationPlain)},
		{[]int{5}, packed(api.StationPlain, 5)},
		{[]int{5, 5}, packed(api.StationPlain, 5, 5)},
		{[]int{0, 0}, packed(api.StationPlain, 0, 0)},
		{[]int{5, 10}, packed(api.StationPlain, 5, 10)},
		{[]int{0, 0, 0}, packed(api.StationDifferences, 0, 3)},
		{[]int{5, 10, 15}, packed(api.StationDifferences, 5, 3)},
		{[]int{5, 5, 5}, packed(api.StationRuns, 5, 3)},
		{[]int{5, 5, 5, 5}, packed(api.StationRuns, 5, 4)},
		{[]int{5, 6, 7, 8}, packed(api.StationPlain, 5, 6, 7, 8)},
		{[]int{5, 6, 7, 8, 9}, packed(api.StationDifferences, 5, 1, 1, 4)},
		{[]int{0, 0, 0, 7, 14}, packed(api.StationDifferences, 0, 3, 7, 2)},
		{[]int{0, 0, 0, 7, 7}, packed(api.StationRuns, 0, 3, 7, 2)},
		{[]int{5, 5, 5, 5, 5, 5, 9}, packed(api.StationRuns, 5, 6, 9, 1)},
		{[]int{1, 2, 3, 4, 5, 6}, packed(api.StationDifferences, 1, 6)},
		{[]int{-3, -3, -3}, packed(api.StationRuns, -3, 3)},
		{[]int{-3, -6, -9}, packed(api.StationDifferences, -3, 3)},
		{[]int{1000000000, -1000000000}, packed(api.StationPlain, 1000000000, -1000000000)},
		{manyOf(-1000000000, 200), packed(api.StationRuns, -1000000000, 200)},
	} {
		p, e := Packed(x.l)
		want(t, "Packed", results(x.l, p, e), results(x.l, x.p, api.OK))
	}
	for _, l := range goodSeries() {
		p, e := Packed(l)
		want(t, "Packed", results(p, e), results(packedByDefinition(l), api.OK))
	}
	for _, x := range badSeries() {
		p, e := Packed(x.l)
		refused(t, "Packed", x.e, p, e)
	}
}

func TestUnpacked(t *testing.T) {
	for _, x := range []struct {
		p api.StationPacked
		l []int
	}{
		{packed(api.StationPlain), nil},
		{packed(api.StationDifferences), nil},
		{packed(api.StationRuns), nil},
		{packed(api.StationPlain, 5, 6, 5), []int{5, 6, 5}},
		{packed(api.StationRuns, 5, 6, 9, 1), []int{5, 5, 5, 5, 5, 5, 9}},
		{packed(api.StationDifferences, 1, 6), []int{1, 2, 3, 4, 5, 6}},
		{packed(api.StationDifferences, 5, 1, 0, 2, -7, 2), []int{5, 5, 5, -2, -9}},
		{packed(api.StationRuns, 5, 1, 5, 2), []int{5, 5, 5}}, // not in the fewest numbers
		{packed(api.StationDifferences, 5, 1, 5, 2), []int{5, 10, 15}},
		{packed(api.StationRuns, 1, 200), manyOf(1, 200)},
		{packed(api.StationRuns, 1, 199, 2, 1), append(manyOf(1, 199), 2)},
		{packed(api.StationDifferences, 0, 200), make([]int, 200)},
		{packed(api.StationPlain, manyOf(-1000000000, 200)...), manyOf(-1000000000, 200)},
		{packed(api.StationRuns, manyOf(1, 400)...), manyOf(1, 200)},
		{packed(api.StationRuns, 1000000000, 1, -1000000000, 1), []int{1000000000, -1000000000}},
		{packed(api.StationDifferences, 1000000000, 1, -2000000000, 1, 2000000000, 1), []int{1000000000, -1000000000, 1000000000}},
		{packed(api.StationDifferences, -1000000000, 1, 2000000000, 1, -2000000000, 1), []int{-1000000000, 1000000000, -1000000000}},
	} {
		l, e := Unpacked(x.p)
		want(t, "Unpacked", results(x.p, l, e), results(x.p, x.l, api.OK))
	}
	for _, x := range badPacked() {
		l, e := Unpacked(x.p)
		refused(t, "Unpacked", x.e, l, e)
		if e != x.e {
			t.Errorf("of %d, %v", x.p.Way, x.p.Numbers[:min(len(x.p.Numbers), 8)])
		}
	}
}

// unpackedByDefinition follows the promise sentence by sentence.
func unpackedByDefinition(p api.StationPacked) ([]int, api.Errno) {
	if p.Way != api.StationPlain && p.Way != api.StationDifferences && p.Way != api.StationRuns {
		return nil, api.ErrKind
	}
	if len(p.Numbers) > 400 {
		return nil, api.ErrLarge
	}
	l := slices.Clone(p.Numbers)
	if p.Way != api.StationPlain {
		if len(l)%2 == 1 {
			return nil, api.ErrShape
		}
		for i := 1; i < len(p.Numbers); i += 2 {
			if p.Numbers[i] < 1 || p.Numbers[i] > 200 {
				return nil, api.ErrRange
			}
		}
		l = nil
		for i := 0; i < len(p.Numbers); i += 2 {
			for range p.Numbers[i+1] {
				l = append(l, p.Numbers[i])
			}
		}
	}
	if len(l) > 200 {
		return nil, api.ErrLarge
	}
	for i := range l {
		if p.Way == api.StationDifferences && i > 0 {
			l[i] += l[i-1]
		}
		if l[i] < -1000000000 || l[i] > 1000000000 {
			return nil, api.ErrRange
		}
	}
	return l, api.OK
}

func TestUnpackedByDefinition(t *testing.T) {
	list := []int{-1000000001, -1000000000, -500000000, -1, 0, 1, 2, 3, 99, 100, 101, 199, 200, 201, 5000000, 999999999, 1000000000, 2000000000}
	for seed := range 3000 {
		next := numbers(seed + 40)
		p := api.StationPacked{Way: next(30) % 4}
		for range next(5) {
			if next(4) > 0 {
				p.Numbers = append(p.Numbers, list[next(len(list))], 1+next(3))
			} else {
				p.Numbers = append(p.Numbers, list[next(len(list))])
			}
		}
		expected, o := unpackedByDefinition(p)
		l, e := Unpacked(p)
		want(t, "Unpacked", results(p, l, e), results(p, expected, o))
	}
}

// P9.9

func TestUnpackedReversesPacked(t *testing.T) {
	for _, l := range goodSeries() {
		p, e := Packed(l)
		want(t, "the error of Packed", e, api.OK)
		if len(p.Numbers) > len(l) {
			t.Errorf("Packed %v: %v, more numbers", l, p)
		}
		again, e := Unpacked(p)
		want(t, "Unpacked of Packed", results(again, e), results(l, api.OK))
		// All ways lead back.
		for way, numbers := range [][]int{l, writtenRuns(differencesOf(l)), runsByDefinition(l)} {
			if len(numbers) <= 400 {
				again, e = Unpacked(packed(way, numbers...))
				want(t, "Unpacked of each way", results(again, e), results(l, api.OK))
			}
		}
	}
}
