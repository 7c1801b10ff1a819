package service

import (
	"strconv"
	"strings"

	"skywave/api"
)

const (
	maxDigits = 7
	// These parts of forms stand for more than any single word.
	restWord   = "REST"
	numberWord = "NUMBER"
	indexWord  = "INDEX"
)

// kind is the role that may make entries of a kind, the form of what follows its word, and its effect.
type kind struct {
	role  int
	form  string
	apply func(*book, order) api.Errno
}

// order is what an entry asks for: who made it, its words, and the number and the rest if its form has them.
type order struct {
	by     string
	words  []string
	number int
	rest   string
}

// kindsOfEntries returns the kinds of entries by their words.
func kindsOfEntries() map[string]kind {
	return map[string]kind{
		"note":      {api.ServiceViewer, "REST", (*book).note},
		"sound":     {api.ServiceOperator, "SOUND STATION REST", (*book).sound},
		"pair":      {api.ServiceOperator, "SOUND REST", (*book).pair},
		"gram":      {api.ServiceOperator, "GRAM STATION REST", (*book).gram},
		"edit":      {api.ServiceReader, "GRAM REST", (*book).edit},
		"invert":    {api.ServiceReader, "GRAM", (*book).invert},
		"value":     {api.ServiceOperator, "WARNING NUMBER", (*book).value},
		"client":    {api.ServiceMaster, "CLIENT", (*book).client},
		"subscribe": {api.ServiceOperator, "CLIENT WARNING", (*book).subscribe},
		"put":       {api.ServiceOperator, "CLIENT WARNING", (*book).put},
		"move":      {api.ServiceOperator, "CLIENT KIND INDEX", (*book).move},
	}
}

// readOrder reads what follows the word of a kind, and tells whether it is of the form.
func readOrder(form, text string) (order, bool) {
	var o order
	for form != "" {
		part, moreForm, wantsMore := strings.Cut(form, " ")
		if part == restWord {
			o.rest = text
			return o, true
		}
		word, more, hasMore := strings.Cut(text, " ")
		if hasMore != wantsMore || !o.read(part, word) {
			return order{}, false
		}
		form, text = moreForm, more
	}
	return o, true
}

// read reads a word as a part of a form, and tells whether it is one.
func (o *order) read(part, word string) bool {
	if part != numberWord && part != indexWord {
		o.words = append(o.words, word)
		return word != ""
	}
	n, ok := readNumber(word)
	o.number = n
	return ok && (part == numberWord || n >= 0)
}

// readNumber reads a number of at most maxDigits digits.
func readNumber(word string) (int, bool) {
	n, err := strconv.Atoi(word)
	// Formatted again, a number shows whether it was written with leading zeros, a plus, or a minus before 0.
	ok := err == nil && len(strings.TrimPrefix(word, "-")) <= maxDigits && strconv.Itoa(n) == word
	return n, ok
}
