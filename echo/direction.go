package echo

import (
	"math/bits"

	"skywave/api"
)

// Candidates returns all directions that agree with each of some readings.
func Candidates(l []api.EchoReading) ([]int, api.Errno) {
	if e := readingsError(l); e != api.OK {
		return nil, e
	}
	list := candidates(l)
	return list, errorIf(len(list) == 0, api.ErrNone)
}

// DirectionsOf returns the candidates as ranges of neighbouring directions.
func DirectionsOf(l []api.EchoReading) ([]api.Range, api.Errno) {
	list, e := Candidates(l)
	if e != api.OK {
		return nil, e
	}
	var ranges []api.Range
	for i, direction := range list {
		if i > 0 && direction == list[i-1]+1 {
			ranges[len(ranges)-1].Hi = direction
		} else {
			ranges = append(ranges, api.Range{Lo: direction, Hi: direction})
		}
	}
	return ranges, api.OK
}

// ContradictingIn returns the minimum set of readings that contradict each other.
func ContradictingIn(l []api.EchoReading) ([]int, api.Errno) {
	if e := readingsError(l); e != api.OK {
		return nil, e
	}
	if agreesAny(l) {
		return nil, api.ErrNone
	}
	// Descending sets, with the first reading as the highest bit, ascend lexicographically if they have the same size.
	least := 1<<len(l) - 1
	for set := least; set > 0; set-- {
		if bits.OnesCount(uint(set)) < bits.OnesCount(uint(least)) && !agreesAny(chosen(l, set)) {
			least = set
		}
	}
	return indexesIn(least, len(l)), api.OK
}

// NextSpacing returns the index of the spacing that leaves the fewest candidates together, and their number.
func NextSpacing(l []api.EchoReading, spacings []int, wrong int) (int, int, api.Errno) {
	e := firstError(readingsError(l), spacingsError(spacings), wrongError(wrong))
	if e != api.OK {
		return 0, 0, e
	}
	directions := candidates(l)
	if len(directions) == 0 {
		return 0, 0, api.ErrNone
	}
	best, fewest := 0, len(directions)
	for i, spacing := range spacings {
		if together := mostTogether(directions, spacing, wrong); together < fewest {
			best, fewest = i, together
		}
	}
	return best, fewest, api.OK
}

func candidates(l []api.EchoReading) []int {
	var list []int
	for direction := -api.MaxEchoDirection; direction <= api.MaxEchoDirection; direction++ {
		if agreesWithAll(l, direction) {
			list = append(list, direction)
		}
	}
	return list
}

func agreesAny(l []api.EchoReading) bool {
	return len(candidates(l)) > 0
}

func agreesWithAll(l []api.EchoReading, direction int) bool {
	for _, r := range l {
		if distance(phase(r.Spacing, direction), r.Phase) > r.Error {
			return false
		}
	}
	return true
}

// mostTogether returns the maximum number of directions that a reading of one of them would leave.
func mostTogether(directions []int, spacing, wrong int) int {
	most := 0
	for _, one := range directions {
		count := 0
		for _, other := range directions {
			if distance(phase(spacing, one), phase(spacing, other)) <= wrong {
				count++
			}
		}
		most = max(most, count)
	}
	return most
}

// chosen returns the readings of a set of bits.
func chosen(l []api.EchoReading, set int) []api.EchoReading {
	var list []api.EchoReading
	for _, i := range indexesIn(set, len(l)) {
		list = append(list, l[i])
	}
	return list
}

// indexesIn returns the indexes of a set of bits, of which the highest one of all is the index 0.
func indexesIn(set, count int) []int {
	var list []int
	for i := range count {
		if set>>(count-1-i)&1 == 1 {
			list = append(list, i)
		}
	}
	return list
}

func readingsError(l []api.EchoReading) api.Errno {
	if len(l) > api.MaxEchoReadings {
		return api.ErrLarge
	}
	_, e := firstBad(l, func(_ int, r api.EchoReading) api.Errno { return CheckReading(r) })
	return e
}

func spacingsError(spacings []int) api.Errno {
	e := firstError(
		errorIf(len(spacings) == 0, api.ErrShape),
		errorIf(len(spacings) > api.MaxEchoSpacings, api.ErrLarge),
	)
	if e != api.OK {
		return e
	}
	_, e = firstBad(spacings, func(_, spacing int) api.Errno { return spacingError(spacing) })
	return e
}
