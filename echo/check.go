package echo

import "skywave/api"

// firstError returns the first of several errors that is one.
func firstError(list ...api.Errno) api.Errno {
	for _, e := range list {
		if e != api.OK {
			return e
		}
	}
	return api.OK
}

func errorIf(bad bool, e api.Errno) api.Errno {
	if bad {
		return e
	}
	return api.OK
}

// firstBad returns the index and the error of the first item that check objects to.
func firstBad[T any](list []T, check func(i int, item T) api.Errno) (int, api.Errno) {
	for i, item := range list {
		if e := check(i, item); e != api.OK {
			return i, e
		}
	}
	return 0, api.OK
}

func outside(n, least, most int) bool {
	return n < least || n > most
}

// beyond tells whether a part of a number is greater in size than a limit.
func beyond(g api.Gauss, limit int) bool {
	return outside(g.Re, -limit, limit) || outside(g.Im, -limit, limit)
}

// samplesError returns the error of samples, one after the other or of two antennas.
func samplesError(x []api.Gauss) api.Errno {
	if len(x) > api.MaxEchoSamples {
		return api.ErrLarge
	}
	_, e := firstBad(x, func(_ int, g api.Gauss) api.Errno {
		return errorIf(beyond(g, api.MaxEchoSample), api.ErrRange)
	})
	return e
}

func spacingError(spacing int) api.Errno {
	return errorIf(outside(spacing, -api.MaxEchoSpacing, api.MaxEchoSpacing), api.ErrRange)
}

// wrongError returns the error of how far a phase may be wrong.
func wrongError(wrong int) api.Errno {
	return errorIf(outside(wrong, 0, api.EchoTurn/2), api.ErrRange)
}
