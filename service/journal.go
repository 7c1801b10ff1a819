package service

import (
	"strconv"
	"strings"

	"skywave/api"
)

// SumOf returns the sum of a string after a number.
func SumOf(s string, after int) (int, api.Errno) {
	if e := rangeError(after, 0, api.ServicePrime-1); e != api.OK {
		return 0, e
	}
	return sumOf(s, after), api.OK
}

// Journal returns the journal of a log.
func Journal(n api.ServiceNet, l []api.ServiceEntry) (string, api.Errno) {
	return asked(n, l, func(b *book) (string, api.Errno) {
		var s strings.Builder
		sum := 0
		for _, entry := range b.log {
			line, next := lineOf(entry, sum)
			s.WriteString(line)
			sum = next
		}
		return s.String(), api.OK
	})
}

// Recovered returns the entries of the longest beginning of a string that is the journal of a valid log, and its length.
func Recovered(n api.ServiceNet, s string) ([]api.ServiceEntry, int, api.Errno) {
	b, e := emptyBook(n)
	if e = firstError(e, errorIf(len(s) > api.MaxString, api.ErrLarge)); e != api.OK {
		return nil, 0, e
	}
	length, sum := 0, 0
	for line := range strings.SplitAfterSeq(s, "\n") {
		entry, next, ok := readLine(line, sum)
		if !ok || b.enter(entry) != api.OK {
			break
		}
		length, sum = length+len(line), next
	}
	return b.log, length, api.OK
}

func sumOf(s string, after int) int {
	sum := after
	for i := range len(s) {
		sum = (sum*api.ServiceFactor + int(s[i]) + 1) % api.ServicePrime
	}
	return sum
}

// lineOf returns the line of an entry, and its sum after the sum of the line before.
func lineOf(entry api.ServiceEntry, after int) (string, int) {
	text := strings.Join([]string{strconv.Itoa(entry.At), entry.By, entry.Text}, " ")
	sum := sumOf(text, after)
	return text + " " + strconv.Itoa(sum) + "\n", sum
}

// readLine returns the entry with a line, and its sum, and tells whether there is one; the entry need not be valid.
func readLine(line string, after int) (api.ServiceEntry, int, bool) {
	at, rest, _ := strings.Cut(line, " ")
	by, rest, _ := strings.Cut(rest, " ")
	end := strings.LastIndexByte(rest, ' ')
	tick, err := strconv.Atoi(at)
	if err != nil || end < 0 {
		return api.ServiceEntry{}, 0, false
	}
	entry := api.ServiceEntry{At: tick, By: by, Text: rest[:end]}
	// The line of the entry shows whether numbers, the sum and the end are as they must be.
	right, sum := lineOf(entry, after)
	return entry, sum, line == right
}
