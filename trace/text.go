package trace

import (
	"strconv"
	"strings"

	"skywave/api"
)

const (
	tagLetters  = "oxnu" // by tags
	kindLetters = "mrw"  // by kinds of edits
	gramDigits  = 5
	pathDigits  = 2
	editDigits  = 7
	editWords   = 5
)

// FormatGram returns the string of an ionogram.
func FormatGram(g api.TraceGram) string {
	parts := []string{strconv.Itoa(g.First) + " " + strconv.Itoa(g.Step)}
	for _, column := range g.Columns {
		parts = append(parts, formatColumn(column))
	}
	return strings.Join(parts, ";")
}

// ParseGram returns the ionogram with a string.
func ParseGram(s string) (api.TraceGram, api.Errno) {
	if len(s) > api.MaxString {
		return api.TraceGram{}, api.ErrLarge
	}
	g, ok := readGram(s)
	if !ok {
		return api.TraceGram{}, api.ErrSyntax
	}
	if e := gramError(g); e != api.OK {
		return api.TraceGram{}, e
	}
	return g, api.OK
}

// FormatPath returns the string of a trace.
func FormatPath(p api.TracePath) string {
	words := []string{strconv.Itoa(p.From)}
	for _, row := range p.Rows {
		words = append(words, strconv.Itoa(row))
	}
	return strings.Join(words, " ")
}

// ParsePath returns the trace with a string.
func ParsePath(s string) (api.TracePath, api.Errno) {
	p, ok := readPath(s)
	if !ok {
		return api.TracePath{}, api.ErrSyntax
	}
	_, rowsError := firstBad(p.Rows, func(_, row int) api.Errno {
		return errorIf(outside(row, removed, api.MaxTraceRows-1), api.ErrRange)
	})
	e := firstError(
		errorIf(outside(p.From, 0, api.MaxTraceColumns-1), api.ErrRange),
		errorIf(len(p.Rows) > api.MaxTraceColumns, api.ErrLarge),
		rowsError,
	)
	if e != api.OK {
		return api.TracePath{}, e
	}
	return p, api.OK
}

// FormatEdit returns the string of an edit.
func FormatEdit(e api.TraceEdit) string {
	return strings.Join([]string{
		strconv.Itoa(e.Number),
		letterOf(kindLetters, e.Kind),
		strconv.Itoa(e.Column),
		strconv.Itoa(e.Row),
		e.By,
	}, " ")
}

// ParseEdit returns the edit with a string. Whether an edit exists that it withdraws is not known.
func ParseEdit(s string) (api.TraceEdit, api.Errno) {
	edit, ok := readEdit(s)
	if !ok {
		return api.TraceEdit{}, api.ErrSyntax
	}
	if e := editError(edit, func(int) bool { return true }); e != api.OK {
		return api.TraceEdit{}, e
	}
	return edit, api.OK
}

func formatColumn(column []api.TraceCell) string {
	cells := make([]string, len(column))
	for row, cell := range column {
		cells[row] = strconv.Itoa(cell.Amplitude) + letterOf(tagLetters, cell.Tag)
	}
	return strings.Join(cells, ",")
}

// letterOf returns the letter of a tag or a kind.
func letterOf(letters string, n int) string {
	if outside(n, 0, len(letters)-1) {
		return "?"
	}
	return letters[n : n+1]
}

func readGram(s string) (api.TraceGram, bool) {
	var g api.TraceGram
	head, rest, hasColumns := strings.Cut(s, ";")
	words := strings.Split(head, " ")
	if len(words) != 2 || !readPlaces(words, gramDigits, map[int]*int{0: &g.First, 1: &g.Step}) {
		return api.TraceGram{}, false
	}
	if !hasColumns {
		return g, true
	}
	columns, ok := readList(rest, ";", readColumn)
	g.Columns = columns
	return g, ok
}

// readColumn reads a column; the empty string is one without cells.
func readColumn(part string) ([]api.TraceCell, bool) {
	if part == "" {
		return nil, true
	}
	return readList(part, ",", readCell)
}

func readCell(word string) (api.TraceCell, bool) {
	if word == "" {
		return api.TraceCell{}, false
	}
	last := len(word) - 1
	amplitude, ok := readPlain(word[:last], gramDigits)
	tag := strings.IndexByte(tagLetters, word[last])
	return api.TraceCell{Amplitude: amplitude, Tag: tag}, ok && tag >= 0
}

func readPath(s string) (api.TracePath, bool) {
	first, rest, hasRows := strings.Cut(s, " ")
	from, ok := readPlain(first, pathDigits)
	if !ok || !hasRows {
		return api.TracePath{}, false
	}
	rows, ok := readList(rest, " ", func(word string) (int, bool) {
		return readSigned(word, pathDigits)
	})
	return api.TracePath{From: from, Rows: rows}, ok
}

func readEdit(s string) (api.TraceEdit, bool) {
	words := strings.Split(s, " ")
	if len(words) != editWords || len(words[1]) != 1 || words[4] == "" {
		return api.TraceEdit{}, false
	}
	edit := api.TraceEdit{Kind: strings.Index(kindLetters, words[1]), By: words[4]}
	ok := readPlaces(words, editDigits, map[int]*int{0: &edit.Number, 2: &edit.Column, 3: &edit.Row})
	return edit, ok && edit.Kind >= 0
}

// readPlaces reads the words with some indexes as numbers into their places, and tells whether all of them are numbers.
func readPlaces(words []string, digits int, places map[int]*int) bool {
	for i, place := range places {
		n, ok := readPlain(words[i], digits)
		if !ok {
			return false
		}
		*place = n
	}
	return true
}

// readList reads all words between separators.
func readList[T any](text, separator string, read func(word string) (T, bool)) ([]T, bool) {
	var list []T
	for word := range strings.SplitSeq(text, separator) {
		item, ok := read(word)
		if !ok {
			return nil, false
		}
		list = append(list, item)
	}
	return list, true
}

// readSigned reads a number of at most so many digits, which must be written as a number is formatted.
func readSigned(word string, digits int) (int, bool) {
	if len(strings.TrimPrefix(word, "-")) > digits {
		return 0, false
	}
	n, err := strconv.Atoi(word)
	return n, err == nil && strconv.Itoa(n) == word
}

func readPlain(word string, digits int) (int, bool) {
	n, ok := readSigned(word, digits)
	return n, ok && n >= 0
}
