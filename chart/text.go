package chart

import (
	"strconv"
	"strings"

	"skywave/api"
)

const (
	stepLetters   = "ruld?" // by directions
	stationDigits = 5
	contourDigits = 2
)

// FormatStation returns the string of a station.
func FormatStation(s api.ChartStation) string {
	words := []string{s.Name}
	for _, n := range []int{s.At.X, s.At.Y, s.Value.Lo, s.Value.Hi, s.Age} {
		words = append(words, strconv.Itoa(n))
	}
	return strings.Join(words, " ")
}

// ParseStation returns the station with a string.
func ParseStation(s string) (api.ChartStation, api.Errno) {
	station, ok := readStation(s)
	if !ok {
		return api.ChartStation{}, api.ErrSyntax
	}
	if e := stationsError([]api.ChartStation{station}); e != api.OK {
		return api.ChartStation{}, e
	}
	return station, api.OK
}

// FormatContour returns the string of a polygon.
func FormatContour(c []api.ChartPlace) string {
	if len(c) == 0 {
		return ""
	}
	letters := make([]byte, 0, len(c))
	for from, to := range stepsOf(c) {
		letters = append(letters, stepLetters[directionOf(from, to)])
	}
	return strconv.Itoa(c[0].X) + " " + strconv.Itoa(c[0].Y) + " " + string(letters)
}

// ParseContour returns the polygon with a string.
func ParseContour(s string) ([]api.ChartPlace, api.Errno) {
	if len(s) > api.MaxString {
		return nil, api.ErrLarge
	}
	c, end, ok := readContour(s)
	if !ok {
		return nil, api.ErrSyntax
	}
	if e := firstError(errorIf(end != c[0], api.ErrOpen), contourError(c)); e != api.OK {
		return nil, e
	}
	return c, api.OK
}

func readStation(s string) (api.ChartStation, bool) {
	words := strings.Split(s, " ")
	if len(words) != 6 || words[0] == "" {
		return api.ChartStation{}, false
	}
	var numbers [5]int
	for i, word := range words[1:] {
		n, ok := readNumber(word, stationDigits)
		isEnd := i == 2 || i == 3
		if !ok || n < 0 && !isEnd {
			return api.ChartStation{}, false
		}
		numbers[i] = n
	}
	return api.ChartStation{
		Name:  words[0],
		At:    api.ChartPlace{X: numbers[0], Y: numbers[1]},
		Value: api.Range{Lo: numbers[2], Hi: numbers[3]},
		Age:   numbers[4],
	}, true
}

// readContour returns the places of a polygon, at least one, and the place to which its last step leads.
func readContour(s string) ([]api.ChartPlace, api.ChartPlace, bool) {
	words := strings.Split(s, " ")
	if len(words) != 3 || words[2] == "" {
		return nil, api.ChartPlace{}, false
	}
	x, isX := readNumber(words[0], contourDigits)
	y, isY := readNumber(words[1], contourDigits)
	if !isX || !isY || x < 0 || y < 0 {
		return nil, api.ChartPlace{}, false
	}
	var c []api.ChartPlace
	at := api.ChartPlace{X: x, Y: y}
	for i := range len(words[2]) {
		direction := strings.IndexByte(stepLetters[:directions], words[2][i])
		if direction < 0 {
			return nil, api.ChartPlace{}, false
		}
		c = append(c, at)
		at = plus(at, steps[direction])
	}
	return c, at, true
}

// readNumber returns the number of a word, which has a limited number of digits.
func readNumber(word string, digits int) (int, bool) {
	n, err := strconv.Atoi(word)
	// Formatted again, a number shows whether it was written with leading zeros, a plus, or a minus before 0.
	ok := err == nil && len(strings.TrimPrefix(word, "-")) <= digits && strconv.Itoa(n) == word
	return n, ok
}
