package forecast

import "skywave/api"

// firstError returns the first of several errors that is one.
func firstError(list ...api.Errno) api.Errno {
	for _, e := range list {
		if e != api.OK {
			return e
		}
	}
	return api.OK
}

func errorIf(bad bool, e api.Errno) api.Errno {
	if bad {
		return e
	}
	return api.OK
}

// firstBad returns the index and the error of the first item that check objects to.
func firstBad[T any](list []T, check func(i int, item T) api.Errno) (int, api.Errno) {
	for i, item := range list {
		if e := check(i, item); e != api.OK {
			return i, e
		}
	}
	return 0, api.OK
}

func outside(n, least, most int) bool {
	return n < least || n > most
}

// rangeError returns the error of a range whose ends are from 0 to a maximum.
func rangeError(r api.Range, most int) api.Errno {
	return firstError(
		errorIf(outside(r.Lo, 0, most) || outside(r.Hi, 0, most), api.ErrRange),
		errorIf(r.Lo > r.Hi, api.ErrOrder),
	)
}

func monthError(month int) api.Errno {
	return errorIf(outside(month, 1, api.MaxForecastMonth), api.ErrRange)
}

func hourError(hour int) api.Errno {
	return errorIf(outside(hour, 0, api.ForecastHours-1), api.ErrRange)
}

func activityError(activity int) api.Errno {
	return errorIf(outside(activity, 0, api.MaxForecastActivity), api.ErrRange)
}

func shareError(share int) api.Errno {
	return errorIf(outside(share, 1, api.ForecastPart), api.ErrRange)
}

func weightError(weight int) api.Errno {
	return errorIf(outside(weight, 1, api.MaxForecastWeight), api.ErrRange)
}

func frequenciesError(frequencies []int) api.Errno {
	_, e := firstBad(frequencies, func(i, frequency int) api.Errno {
		return firstError(
			errorIf(outside(frequency, 1, api.MaxForecastFrequency), api.ErrRange),
			errorIf(i > 0 && frequency <= frequencies[i-1], api.ErrOrder),
		)
	})
	return firstError(
		errorIf(len(frequencies) == 0, api.ErrShape),
		errorIf(len(frequencies) > api.MaxForecastColumns, api.ErrLarge),
		e,
	)
}
