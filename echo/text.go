package echo

import (
	"strconv"
	"strings"

	"skywave/api"
)

const (
	maxDigits = 10
	noEchoes  = "-"
)

// FormatRules returns the string of rules.
func FormatRules(r api.EchoRules) string {
	return joined(placesOfRules(&r))
}

// ParseRules returns the rules with a string.
func ParseRules(s string) (api.EchoRules, api.Errno) {
	var r api.EchoRules
	if !readInto(placesOfRules(&r), s) {
		return api.EchoRules{}, api.ErrSyntax
	}
	if e := CheckRules(r); e != api.OK {
		return api.EchoRules{}, e
	}
	return r, api.OK
}

// FormatEchoes returns the string of echoes.
func FormatEchoes(l []api.EchoItem) string {
	if len(l) == 0 {
		return noEchoes
	}
	texts := make([]string, len(l))
	for i, item := range l {
		texts[i] = joined(placesOfEcho(&item))
	}
	return strings.Join(texts, ",")
}

// ParseEchoes returns the echoes with a string.
func ParseEchoes(s string) ([]api.EchoItem, api.Errno) {
	if len(s) > api.MaxString {
		return nil, api.ErrLarge
	}
	l, ok := readEchoes(s)
	if !ok {
		return nil, api.ErrSyntax
	}
	if e := echoesError(l); e != api.OK {
		return nil, e
	}
	return l, api.OK
}

// placesOfRules lists the numbers of rules in the order of their string.
func placesOfRules(r *api.EchoRules) []*int {
	m := &r.Modes
	return []*int{
		&m.Ordinary.Re, &m.Ordinary.Im, &m.Extra.Re, &m.Extra.Im,
		&r.Ratio, &r.Noise, &r.Power, &r.Cell, &r.Start, &r.Doubt,
	}
}

// placesOfEcho lists the numbers of an echo in the order of its string.
func placesOfEcho(item *api.EchoItem) []*int {
	return []*int{&item.Lag, &item.Power, &item.Tag, &item.Heights.Lo, &item.Heights.Hi}
}

// joined returns the numbers at some places, separated by blanks.
func joined(places []*int) string {
	words := make([]string, len(places))
	for i, place := range places {
		words[i] = strconv.Itoa(*place)
	}
	return strings.Join(words, " ")
}

// readInto reads as many numbers as there are places, and tells whether the string has this form.
func readInto(places []*int, s string) bool {
	words := strings.Split(s, " ")
	if len(words) != len(places) {
		return false
	}
	for i, word := range words {
		n, ok := readNumber(word)
		if !ok {
			return false
		}
		*places[i] = n
	}
	return true
}

func readEchoes(s string) ([]api.EchoItem, bool) {
	if s == noEchoes {
		return nil, true
	}
	texts := strings.Split(s, ",")
	l := make([]api.EchoItem, len(texts))
	for i, text := range texts {
		if !readInto(placesOfEcho(&l[i]), text) {
			return nil, false
		}
	}
	return l, true
}

func readNumber(word string) (int, bool) {
	digits, negative := strings.CutPrefix(word, "-")
	if len(digits) < 1 || len(digits) > maxDigits {
		return 0, false
	}
	if digits[0] == '0' && (negative || len(digits) > 1) {
		return 0, false
	}
	n := 0
	for i := range len(digits) {
		if digits[i] < '0' || digits[i] > '9' {
			return 0, false
		}
		n = 10*n + int(digits[i]-'0')
	}
	if negative {
		n = -n
	}
	return n, true
}

func echoesError(l []api.EchoItem) api.Errno {
	_, e := firstBad(l, func(i int, item api.EchoItem) api.Errno {
		return firstError(
			lagError(item.Lag),
			errorIf(outside(item.Power, 1, api.MaxEchoPower), api.ErrRange),
			errorIf(outside(item.Heights.Lo, -api.MaxEchoHeight, api.MaxEchoHeight), api.ErrRange),
			errorIf(outside(item.Heights.Hi, -api.MaxEchoHeight, api.MaxEchoHeight), api.ErrRange),
			errorIf(outside(item.Tag, 0, api.EchoTags-1), api.ErrKind),
			errorIf(item.Heights.Lo > item.Heights.Hi, api.ErrOrder),
			errorIf(i > 0 && item.Lag <= l[i-1].Lag, api.ErrOrder),
		)
	})
	return e
}
