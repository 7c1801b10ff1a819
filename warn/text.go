package warn

import (
	"strconv"
	"strings"

	"skywave/api"
)

const maxDigits = 7

// FormatRules returns the string of rules.
func FormatRules(r api.WarnRules) string {
	words := []string{r.Name, strconv.Itoa(r.Hold)}
	for i := range max(len(r.Up), len(r.Down)) {
		words = append(words, formatItem(r.Up, i)+"/"+formatItem(r.Down, i))
	}
	return strings.Join(words, " ")
}

// ParseRules returns the rules with a string.
func ParseRules(s string) (api.WarnRules, api.Errno) {
	r, ok := readRules(s)
	if !ok {
		return api.WarnRules{}, api.ErrSyntax
	}
	if _, e := CheckRules(r); e != api.OK {
		return api.WarnRules{}, e
	}
	return r, api.OK
}

// FormatMessage returns the string of a message.
func FormatMessage(m api.WarnMessage) string {
	return m.Warning + " " + strconv.Itoa(m.Version) + " " + strconv.Itoa(m.Level)
}

// ParseMessage returns the message with a string.
func ParseMessage(s string) (api.WarnMessage, api.Errno) {
	m, ok := readMessage(s)
	if !ok {
		return api.WarnMessage{}, api.ErrSyntax
	}
	if e := messageError(m); e != api.OK {
		return api.WarnMessage{}, e
	}
	return m, api.OK
}

// formatItem returns the string of an item of a list, or of 0 if it is missing.
func formatItem(list []int, i int) string {
	if i >= len(list) {
		return "0"
	}
	return strconv.Itoa(list[i])
}

// readRules reads a string in which the name may be empty.
func readRules(s string) (api.WarnRules, bool) {
	words := strings.Split(s, " ")
	if len(words) < 2 {
		return api.WarnRules{}, false
	}
	hold, ok := readPlain(words[1])
	r := api.WarnRules{Name: words[0], Hold: hold}
	for _, word := range words[2:] {
		first, second, isPair := strings.Cut(word, "/")
		up, isUp := readNumber(first)
		down, isDown := readNumber(second)
		ok = ok && isPair && isUp && isDown
		r.Up, r.Down = append(r.Up, up), append(r.Down, down)
	}
	return r, ok
}

func readMessage(s string) (api.WarnMessage, bool) {
	words := strings.Split(s, " ")
	if len(words) != 3 || words[0] == "" {
		return api.WarnMessage{}, false
	}
	version, isVersion := readPlain(words[1])
	level, isLevel := readPlain(words[2])
	return api.WarnMessage{Warning: words[0], Version: version, Level: level}, isVersion && isLevel
}

// readNumber reads a number of at most maxDigits digits.
func readNumber(word string) (int, bool) {
	n, err := strconv.Atoi(word)
	// Formatted again, a number shows whether it was written with leading zeros, a plus, or a minus before 0.
	ok := err == nil && len(strings.TrimPrefix(word, "-")) <= maxDigits && strconv.Itoa(n) == word
	return n, ok
}

func readPlain(word string) (int, bool) {
	n, ok := readNumber(word)
	return n, ok && n >= 0
}
