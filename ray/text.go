package ray

import (
	"strconv"
	"strings"

	"skywave/api"
)

const maxDigits = 7

// FormatSky returns the string of a sky.
func FormatSky(s api.RaySky) string {
	words := []string{strconv.Itoa(s.Height)}
	for _, slab := range s.Slabs {
		words = append(words, strconv.Itoa(slab.Thickness)+"x"+strconv.Itoa(slab.Square))
	}
	return strings.Join(words, " ")
}

// ParseSky returns the sky with a string.
func ParseSky(s string) (api.RaySky, api.Errno) {
	sky, ok := readSky(s)
	if !ok {
		return api.RaySky{}, api.ErrSyntax
	}
	if e := skyError(sky); e != api.OK {
		return api.RaySky{}, e
	}
	return sky, api.OK
}

func readSky(s string) (api.RaySky, bool) {
	words := strings.Split(s, " ")
	height, ok := readNumber(words[0])
	if !ok {
		return api.RaySky{}, false
	}
	sky := api.RaySky{Height: height}
	for _, word := range words[1:] {
		slab, ok := readSlab(word)
		if !ok {
			return api.RaySky{}, false
		}
		sky.Slabs = append(sky.Slabs, slab)
	}
	return sky, true
}

func readSlab(word string) (api.RaySlab, bool) {
	// Without an "x" the second number is empty, and so none.
	first, second, _ := strings.Cut(word, "x")
	thickness, isThickness := readNumber(first)
	square, isSquare := readNumber(second)
	return api.RaySlab{Thickness: thickness, Square: square}, isThickness && isSquare
}

func readNumber(word string) (int, bool) {
	n, err := strconv.Atoi(word)
	// Formatted again, a number shows whether it was written with leading zeros or a plus.
	ok := err == nil && n >= 0 && len(word) <= maxDigits && strconv.Itoa(n) == word
	return n, ok
}
