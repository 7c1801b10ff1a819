package trace

import "skywave/api"

// firstError returns the first of several errors that is one.
func firstError(list ...api.Errno) api.Errno {
	for _, e := range list {
		if e != api.OK {
			return e
		}
	}
	return api.OK
}

func errorIf(bad bool, e api.Errno) api.Errno {
	if bad {
		return e
	}
	return api.OK
}

// firstBad returns the index and the error of the first item that check objects to.
func firstBad[T any](list []T, check func(i int, item T) api.Errno) (int, api.Errno) {
	for i, item := range list {
		if e := check(i, item); e != api.OK {
			return i, e
		}
	}
	return 0, api.OK
}

func outside(n, least, most int) bool {
	return n < least || n > most
}

// sizeOf returns the size of a number of which no limit is near.
func sizeOf(n int) int {
	return max(n, -n)
}

// rangeError returns the error of a range whose ends are from 0 to a maximum.
func rangeError(r api.Range, most int) api.Errno {
	return firstError(
		errorIf(outside(r.Lo, 0, most) || outside(r.Hi, 0, most), api.ErrRange),
		errorIf(r.Lo > r.Hi, api.ErrOrder),
	)
}

func isName(s string) bool {
	if outside(len(s), 1, api.MaxName) || !isLetter(s[0]) {
		return false
	}
	for i := range len(s) {
		if !isLetter(s[i]) && !isDigit(s[i]) && s[i] != '-' {
			return false
		}
	}
	return true
}

func isLetter(b byte) bool {
	return b >= 'a' && b <= 'z' || b >= 'A' && b <= 'Z'
}

func isDigit(b byte) bool {
	return b >= '0' && b <= '9'
}
