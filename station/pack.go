package station

import (
	"iter"
	"slices"

	"skywave/api"
)

const maxNumbers = 2 * api.MaxStationSeries

// Packed returns a series packed in the way with the fewest numbers.
func Packed(l []int) (api.StationPacked, api.Errno) {
	if e := seriesError(l); e != api.OK {
		return api.StationPacked{}, e
	}
	written := [api.StationWays][]int{
		api.StationPlain:       slices.Clone(l),
		api.StationDifferences: writtenRuns(differencesOf(l)),
		api.StationRuns:        writtenRuns(l),
	}
	best := api.StationPlain
	for way, numbers := range written {
		if len(numbers) < len(written[best]) {
			best = way
		}
	}
	return api.StationPacked{Way: best, Numbers: written[best]}, api.OK
}

// Unpacked returns the series that is packed.
func Unpacked(p api.StationPacked) ([]int, api.Errno) {
	isPlain := p.Way == api.StationPlain
	e := firstError(
		errorIf(outside(p.Way, 0, api.StationWays-1), api.ErrKind),
		errorIf(len(p.Numbers) > maxNumbers, api.ErrLarge),
		errorIf(!isPlain && len(p.Numbers)%2 != 0, api.ErrShape),
	)
	if e != api.OK {
		return nil, e
	}
	if isPlain {
		return checkedSeries(slices.Clone(p.Numbers))
	}
	l, e := readRuns(p.Numbers)
	if e != api.OK {
		return nil, e
	}
	if p.Way == api.StationDifferences {
		return summed(l)
	}
	return checkedSeries(l)
}

// runs ranges over the runs of numbers: each number, and how often it follows itself.
func runs(l []int) iter.Seq2[int, int] {
	return func(yield func(number, count int) bool) {
		begin := 0
		for end := 1; end <= len(l); end++ {
			if end < len(l) && l[end] == l[begin] {
				continue
			}
			if !yield(l[begin], end-begin) {
				return
			}
			begin = end
		}
	}
}

func writtenRuns(l []int) []int {
	var written []int
	for number, count := range runs(l) {
		written = append(written, number, count)
	}
	return written
}

// readRuns returns the numbers whose runs are written.
func readRuns(written []int) ([]int, api.Errno) {
	var l []int
	for run := range slices.Chunk(written, 2) {
		if e := rangeError(run[1], 1, api.MaxStationSeries); e != api.OK {
			return nil, e
		}
		l = append(l, slices.Repeat(run[:1], run[1])...)
	}
	return l, lengthError(l)
}

func differencesOf(l []int) []int {
	var differences []int
	before := 0
	for _, number := range l {
		differences = append(differences, number-before)
		before = number
	}
	return differences
}

// summed returns the series with these differences, or the error of its numbers.
func summed(differences []int) ([]int, api.Errno) {
	var l []int
	number := 0
	for _, difference := range differences {
		// Compared before it is added, as the sum with any number might overflow.
		e := rangeError(difference, -api.MaxStationValue-number, api.MaxStationValue-number)
		if e != api.OK {
			return nil, e
		}
		number += difference
		l = append(l, number)
	}
	return l, api.OK
}

// checkedSeries returns a series, or its error.
func checkedSeries(l []int) ([]int, api.Errno) {
	if e := seriesError(l); e != api.OK {
		return nil, e
	}
	return l, api.OK
}

func seriesError(l []int) api.Errno {
	_, e := firstBad(l, func(_, number int) api.Errno {
		return rangeError(number, -api.MaxStationValue, api.MaxStationValue)
	})
	return firstError(lengthError(l), e)
}

func lengthError(l []int) api.Errno {
	return errorIf(len(l) > api.MaxStationSeries, api.ErrLarge)
}
