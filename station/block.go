package station

import (
	"iter"
	"strconv"
	"strings"

	"skywave/api"
)

const (
	maxCheck = 65535
	// checkDivisor is the number of x^16 + x^12 + x^5 + 1.
	checkDivisor = 69665
)

// CheckOf returns the check of a string.
func CheckOf(s string) (int, api.Errno) {
	if e := stringError(s); e != api.OK {
		return 0, e
	}
	return checkOf(s), api.OK
}

// BlocksOf returns the blocks of a size into which a string is divided.
func BlocksOf(s string, size int) ([]api.StationBlock, api.Errno) {
	e := firstError(stringError(s), rangeError(size, 1, api.MaxStationBody))
	if e != api.OK {
		return nil, e
	}
	count := max(dividedUp(len(s), size), 1)
	if count > api.MaxStationCount {
		return nil, api.ErrFull
	}
	var l []api.StationBlock
	for number := range count {
		body := s[number*size : min((number+1)*size, len(s))]
		b := api.StationBlock{Number: number, Count: count, Body: body}
		b.Check = rightCheck(b)
		l = append(l, b)
	}
	return l, api.OK
}

// IsSound tells whether a block is sound.
func IsSound(b api.StationBlock) (bool, api.Errno) {
	if e := blockError(b); e != api.OK {
		return false, e
	}
	return isSound(b), api.OK
}

// MissingIn returns the numbers of the blocks that are missing, for so many blocks.
func MissingIn(l []api.StationBlock, count int) ([]int, api.Errno) {
	if e := receivedError(l, count); e != api.OK {
		return nil, e
	}
	there := map[int]bool{}
	for b := range soundBlocks(l, count) {
		there[b.Number] = true
	}
	var missing []int
	for number := range count {
		if !there[number] {
			missing = append(missing, number)
		}
	}
	return missing, api.OK
}

// Assembled returns the string that was divided into so many blocks.
func Assembled(l []api.StationBlock, count int) (string, api.Errno) {
	if e := receivedError(l, count); e != api.OK {
		return "", e
	}
	bodies := map[int]string{}
	for b := range soundBlocks(l, count) {
		if body, known := bodies[b.Number]; known && body != b.Body {
			return "", api.ErrClash
		}
		bodies[b.Number] = b.Body
	}
	if len(bodies) < count {
		return "", api.ErrGap
	}
	var s strings.Builder
	for number := range count {
		s.WriteString(bodies[number])
	}
	return s.String(), api.OK
}

// soundBlocks ranges over the sound blocks with this number of all blocks.
func soundBlocks(l []api.StationBlock, count int) iter.Seq[api.StationBlock] {
	return func(yield func(api.StationBlock) bool) {
		for _, b := range l {
			if b.Count == count && isSound(b) && !yield(b) {
				return
			}
		}
	}
}

func isSound(b api.StationBlock) bool {
	return b.Number >= 0 && b.Number < b.Count && b.Check == rightCheck(b)
}

// rightCheck returns the check that a block must have.
func rightCheck(b api.StationBlock) int {
	return checkOf(strconv.Itoa(b.Number) + " " + strconv.Itoa(b.Count) + " " + b.Body)
}

func checkOf(s string) int {
	check := maxCheck
	for i := range len(s) {
		check ^= int(s[i]) << 8
		for range 8 {
			check *= 2
			if check > maxCheck {
				check ^= checkDivisor
			}
		}
	}
	return check
}

func stringError(s string) api.Errno {
	return errorIf(len(s) > api.MaxStationString, api.ErrLarge)
}

func blockError(b api.StationBlock) api.Errno {
	return errorIf(len(b.Body) > api.MaxStationBody, api.ErrLarge)
}

// receivedError returns the error of blocks that were received, and of the number of all blocks.
func receivedError(l []api.StationBlock, count int) api.Errno {
	_, e := firstBad(l, func(_ int, b api.StationBlock) api.Errno { return blockError(b) })
	return firstError(
		errorIf(len(l) > api.MaxStationBlocks, api.ErrLarge),
		e,
		rangeError(count, 1, api.MaxStationCount),
	)
}
