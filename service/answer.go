package service

import (
	"slices"
	"strconv"
	"strings"

	"skywave/api"
	"skywave/echo"
	"skywave/profile"
	"skywave/trace"
)

// answer returns the answer to a question, or its error.
func (b *book) answer(question string) (string, api.Errno) {
	word, name, hasName := strings.Cut(question, " ")
	if !hasName {
		answer, known := b.summaries()[word]
		if !known {
			return "", api.ErrSyntax
		}
		return answer(), api.OK
	}
	answer, known := b.details()[word]
	if !known {
		return "", api.ErrSyntax
	}
	return answer(name)
}

// summaries returns what answers the questions that are one word.
func (b *book) summaries() map[string]func() string {
	return map[string]func() string{
		"count":    func() string { return strconv.Itoa(len(b.log)) },
		"sounds":   func() string { return listed(labels(b.sounds)) },
		"grams":    func() string { return listed(labels(b.ionograms)) },
		"clients":  func() string { return listed(labels(b.clients)) },
		"stations": func() string { return listed(b.invertedStations()) },
	}
}

// details returns what answers the questions about an item with a name.
func (b *book) details() map[string]func(name string) (string, api.Errno) {
	return map[string]func(name string) (string, api.Errno){
		"echoes": func(name string) (string, api.Errno) {
			l, e := b.echoesOf(name)
			return formatted(l, e, echo.FormatEchoes)
		},
		"path": func(name string) (string, api.Errno) {
			g, e := found(b.ionograms, name)
			return formatted(g, e, func(g ionogram) string { return trace.FormatPath(b.pathOf(g)) })
		},
		"profile": func(name string) (string, api.Errno) {
			p, e := b.productOf(name)
			return formatted(p.Profile, e, profile.FormatProfile)
		},
		"version": func(name string) (string, api.Errno) {
			p, e := b.productOf(name)
			return formatted(p.Version, e, strconv.Itoa)
		},
		"warning": func(name string) (string, api.Errno) {
			s, e := b.warningOf(name)
			return formatted(s, e, func(s api.WarnState) string {
				return strconv.Itoa(s.Level) + " " + strconv.Itoa(s.Version)
			})
		},
		"pending": func(name string) (string, api.Errno) {
			l, e := b.pendingFor(name)
			return formatted(l, e, listed)
		},
	}
}

// invertedStations returns the stations that have a product.
func (b *book) invertedStations() []string {
	isWithout := func(station string) bool { return !has(b.products, station) }
	return slices.DeleteFunc(slices.Clone(b.Stations), isWithout)
}

// formatted returns the string of a value, unless there is an error.
func formatted[T any](x T, e api.Errno, format func(T) string) (string, api.Errno) {
	if e != api.OK {
		return "", e
	}
	return format(x), api.OK
}

// listed returns the string of names.
func listed(names []string) string {
	if len(names) == 0 {
		return "-"
	}
	return strings.Join(names, ",")
}
