package forecast

import (
	"strconv"
	"strings"

	"skywave/api"
)

const (
	recordNumbers = 6
	maxDigits     = 5
)

// FormatRecord returns the string of a record.
func FormatRecord(x api.ForecastRecord) string {
	var words []string
	for _, n := range []int{x.Year, x.Month, x.Hour, x.Activity, x.Usable.Lo, x.Usable.Hi} {
		words = append(words, strconv.Itoa(n))
	}
	return strings.Join(words, " ")
}

// ParseRecord returns the record with a string.
func ParseRecord(s string) (api.ForecastRecord, api.Errno) {
	x, ok := readRecord(s)
	if !ok {
		return api.ForecastRecord{}, api.ErrSyntax
	}
	if e := recordError(x); e != api.OK {
		return api.ForecastRecord{}, e
	}
	return x, api.OK
}

func readRecord(s string) (api.ForecastRecord, bool) {
	words := strings.Split(s, " ")
	if len(words) != recordNumbers {
		return api.ForecastRecord{}, false
	}
	var numbers [recordNumbers]int
	for i, word := range words {
		n, ok := readNumber(word)
		if !ok {
			return api.ForecastRecord{}, false
		}
		numbers[i] = n
	}
	return api.ForecastRecord{
		Year:     numbers[0],
		Month:    numbers[1],
		Hour:     numbers[2],
		Activity: numbers[3],
		Usable:   api.Range{Lo: numbers[4], Hi: numbers[5]},
	}, true
}

func readNumber(word string) (int, bool) {
	n, err := strconv.Atoi(word)
	// Formatted again, a number shows whether it was written with leading zeros or a plus.
	ok := err == nil && n >= 0 && len(word) <= maxDigits && strconv.Itoa(n) == word
	return n, ok
}
