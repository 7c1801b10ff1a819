package ray

import "skywave/api"

// firstError returns the first of several errors that is one.
func firstError(list ...api.Errno) api.Errno {
	for _, e := range list {
		if e != api.OK {
			return e
		}
	}
	return api.OK
}

func errorIf(bad bool, e api.Errno) api.Errno {
	if bad {
		return e
	}
	return api.OK
}

// firstBad returns the index and the error of the first item that check objects to.
func firstBad[T any](list []T, check func(i int, item T) api.Errno) (int, api.Errno) {
	for i, item := range list {
		if e := check(i, item); e != api.OK {
			return i, e
		}
	}
	return 0, api.OK
}

func outside(n, least, most int) bool {
	return n < least || n > most
}
