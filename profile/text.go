package profile

import (
	"strconv"
	"strings"

	"skywave/api"
)

const maxDigits = 7

// FormatProfile returns the string of a profile.
func FormatProfile(p api.ProfileSky) string {
	rows := [][]int{{p.Base}}
	for _, slab := range p.Slabs {
		rows = append(rows, []int{slab.Square, slab.Thickness})
	}
	return formatRows(rows)
}

// ParseProfile returns the profile with a string.
func ParseProfile(s string) (api.ProfileSky, api.Errno) {
	rows, e := readRows(s, 1, 2)
	if e != api.OK {
		return api.ProfileSky{}, e
	}
	p := api.ProfileSky{Base: rows[0][0]}
	for _, row := range rows[1:] {
		p.Slabs = append(p.Slabs, api.ProfileSlab{Square: row[0], Thickness: row[1]})
	}
	if e := profileError(p); e != api.OK {
		return api.ProfileSky{}, e
	}
	return p, api.OK
}

// FormatTrace returns the string of a trace.
func FormatTrace(t api.ProfileTrace) string {
	rows := [][]int{{t.After, t.Width}}
	for _, point := range t.Points {
		rows = append(rows, []int{point.Frequency, point.Pixel.Lo, point.Pixel.Hi})
	}
	return formatRows(rows)
}

// ParseTrace returns the trace with a string.
func ParseTrace(s string) (api.ProfileTrace, api.Errno) {
	rows, e := readRows(s, 2, 3)
	if e != api.OK {
		return api.ProfileTrace{}, e
	}
	t := api.ProfileTrace{After: rows[0][0], Width: rows[0][1]}
	for _, row := range rows[1:] {
		pixel := api.Range{Lo: row[1], Hi: row[2]}
		t.Points = append(t.Points, api.ProfilePoint{Frequency: row[0], Pixel: pixel})
	}
	if _, e := CheckTrace(t); e != api.OK {
		return api.ProfileTrace{}, e
	}
	return t, api.OK
}

func formatRows(rows [][]int) string {
	texts := make([]string, len(rows))
	for i, row := range rows {
		words := make([]string, len(row))
		for j, n := range row {
			words[j] = strconv.Itoa(n)
		}
		texts[i] = strings.Join(words, " ")
	}
	return strings.Join(texts, ";")
}

// readRows reads rows of numbers, of which the first one and the others have so many.
func readRows(s string, first, other int) ([][]int, api.Errno) {
	if len(s) > api.MaxString {
		return nil, api.ErrLarge
	}
	var rows [][]int
	width := first
	for text := range strings.SplitSeq(s, ";") {
		row, ok := readRow(text)
		if !ok || len(row) != width {
			return nil, api.ErrSyntax
		}
		rows = append(rows, row)
		width = other
	}
	return rows, api.OK
}

func readRow(text string) ([]int, bool) {
	var row []int
	for word := range strings.SplitSeq(text, " ") {
		n, err := strconv.Atoi(word)
		// Formatted again, a number shows whether it was written with a sign or with leading zeros.
		if err != nil || n < 0 || len(word) > maxDigits || strconv.Itoa(n) != word {
			return nil, false
		}
		row = append(row, n)
	}
	return row, true
}
