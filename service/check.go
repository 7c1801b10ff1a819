package service

import "skywave/api"

// firstError returns the first of several errors that is one.
func firstError(list ...api.Errno) api.Errno {
	for _, e := range list {
		if e != api.OK {
			return e
		}
	}
	return api.OK
}

func errorIf(bad bool, e api.Errno) api.Errno {
	if bad {
		return e
	}
	return api.OK
}

// firstBad returns the index and the error of the first item that check objects to.
func firstBad[T any](list []T, check func(i int, item T) api.Errno) (int, api.Errno) {
	for i, item := range list {
		if e := check(i, item); e != api.OK {
			return i, e
		}
	}
	return 0, api.OK
}

func outside(n, least, most int) bool {
	return n < least || n > most
}

// rangeError returns the error of a number that must be from a least to a greatest one.
func rangeError(n, least, most int) api.Errno {
	return errorIf(outside(n, least, most), api.ErrRange)
}

// lengthError returns the error of the length of a list that must not be empty.
func lengthError(length, most int) api.Errno {
	return firstError(
		errorIf(length == 0, api.ErrShape),
		errorIf(length > most, api.ErrLarge),
	)
}

func nameError(s string) api.Errno {
	return errorIf(!isName(s), api.ErrName)
}

func isName(s string) bool {
	if outside(len(s), 1, api.MaxName) || !isLetter(s[0]) {
		return false
	}
	for i := range len(s) {
		if !isLetter(s[i]) && !isDigit(s[i]) && s[i] != '-' {
			return false
		}
	}
	return true
}

func isLetter(b byte) bool {
	return b >= 'a' && b <= 'z' || b >= 'A' && b <= 'Z'
}

func isDigit(b byte) bool {
	return b >= '0' && b <= '9'
}

// isPlain tells whether a string has only printed bytes and blanks.
func isPlain(s string) bool {
	for i := range len(s) {
		if s[i] < ' ' || s[i] > '~' {
			return false
		}
	}
	return true
}
