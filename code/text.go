package code

import (
	"strconv"
	"strings"

	"skywave/api"
)

const maxDigits = 8

// FormatFrame returns the string of a frame.
func FormatFrame(f api.CodeFrame) string {
	return strings.Join([]string{
		joined([]int{f.Gain, f.Limit}, strconv.Itoa),
		joined(f.Samples, formatSample),
		joined(f.Gaps, strconv.Itoa),
	}, ";")
}

// ParseFrame returns the frame with a string.
func ParseFrame(s string) (api.CodeFrame, api.Errno) {
	if len(s) > api.MaxString {
		return api.CodeFrame{}, api.ErrLarge
	}
	f, ok := readFrame(s)
	if !ok {
		return api.CodeFrame{}, api.ErrSyntax
	}
	if _, e := CheckFrame(f); e != api.OK {
		return api.CodeFrame{}, e
	}
	return f, api.OK
}

func formatSample(g api.Gauss) string {
	return strconv.Itoa(g.Re) + "," + strconv.Itoa(g.Im)
}

// joined returns the words of a list, separated by blanks.
func joined[T any](list []T, format func(T) string) string {
	words := make([]string, len(list))
	for i, item := range list {
		words[i] = format(item)
	}
	return strings.Join(words, " ")
}

func readFrame(s string) (api.CodeFrame, bool) {
	parts := strings.Split(s, ";")
	if len(parts) != 3 {
		return api.CodeFrame{}, false
	}
	gain, limit, _ := strings.Cut(parts[0], " ")
	var f api.CodeFrame
	var good [4]bool
	f.Gain, good[0] = readSigned(gain)
	f.Limit, good[1] = readPlain(limit)
	f.Samples, good[2] = readWords(parts[1], readSample)
	f.Gaps, good[3] = readWords(parts[2], readPlain)
	return f, good == [4]bool{true, true, true, true}
}

// readWords reads a part of words that are separated by single blanks; an empty part has none.
func readWords[T any](part string, read func(word string) (T, bool)) ([]T, bool) {
	if part == "" {
		return nil, true
	}
	var list []T
	for _, word := range strings.Split(part, " ") {
		item, ok := read(word)
		if !ok {
			return nil, false
		}
		list = append(list, item)
	}
	return list, true
}

func readSample(word string) (api.Gauss, bool) {
	re, im, _ := strings.Cut(word, ",")
	a, aGood := readSigned(re)
	b, bGood := readSigned(im)
	return api.Gauss{Re: a, Im: b}, aGood && bGood
}

func readSigned(word string) (int, bool) {
	digits, negative := strings.CutPrefix(word, "-")
	n, ok := readPlain(digits)
	if !negative {
		return n, ok
	}
	return -n, ok && n != 0
}

func readPlain(word string) (int, bool) {
	if len(word) < 1 || len(word) > maxDigits || len(word) > 1 && word[0] == '0' {
		return 0, false
	}
	n := 0
	for i := range len(word) {
		if word[i] < '0' || word[i] > '9' {
			return 0, false
		}
		n = 10*n + int(word[i]-'0')
	}
	return n, true
}
