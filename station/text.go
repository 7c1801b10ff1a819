package station

import (
	"strconv"
	"strings"

	"skywave/api"
)

const (
	maxDigits = 9
	maxBlock  = api.MaxStationBody + 40 // bytes of the string of a block
)

// FormatBlock returns the string of a block.
func FormatBlock(b api.StationBlock) string {
	words := []string{strconv.Itoa(b.Number), strconv.Itoa(b.Count), strconv.Itoa(b.Check), b.Body}
	return strings.Join(words, " ")
}

// ParseBlock returns the block with a string.
func ParseBlock(s string) (api.StationBlock, api.Errno) {
	if len(s) > maxBlock {
		return api.StationBlock{}, api.ErrLarge
	}
	b, ok := readBlock(s)
	if !ok {
		return api.StationBlock{}, api.ErrSyntax
	}
	if e := blockError(b); e != api.OK {
		return api.StationBlock{}, e
	}
	return b, api.OK
}

// readBlock reads a string whose body may be too large.
func readBlock(s string) (api.StationBlock, bool) {
	var numbers [3]int
	for i := range numbers {
		word, rest, isFollowed := strings.Cut(s, " ")
		number, ok := readNumber(word)
		if !ok || !isFollowed {
			return api.StationBlock{}, false
		}
		numbers[i], s = number, rest
	}
	return api.StationBlock{Number: numbers[0], Count: numbers[1], Check: numbers[2], Body: s}, true
}

// readNumber reads a number of at most maxDigits digits, without a sign.
func readNumber(word string) (int, bool) {
	n, err := strconv.Atoi(word)
	// Formatted again, a number shows whether it was written with leading zeros or a plus.
	ok := err == nil && n >= 0 && len(word) <= maxDigits && strconv.Itoa(n) == word
	return n, ok
}
