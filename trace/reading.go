package trace

import "skywave/api"

// AgreedOf returns the range that all readings permit.
func AgreedOf(l []api.TraceReading, shift api.Range) (api.Range, api.Errno) {
	if e := readingsError(l, shift); e != api.OK {
		return api.Range{}, e
	}
	agreed := permitted(l[0], shift)
	for _, reading := range l[1:] {
		agreed = common(agreed, permitted(reading, shift))
	}
	if isEmpty(agreed) {
		return api.Range{}, api.ErrClash
	}
	return agreed, api.OK
}

// Contradicting returns the minimum set of readings that contradict each other. It is a pair: ranges any two of which have a number in common have one in common all together.
func Contradicting(l []api.TraceReading, shift api.Range) ([]int, api.Errno) {
	if e := readingsError(l, shift); e != api.OK {
		return nil, e
	}
	for i, one := range l {
		for j := i + 1; j < len(l); j++ {
			if isEmpty(common(permitted(one, shift), permitted(l[j], shift))) {
				return []int{i, j}, api.OK
			}
		}
	}
	return nil, api.ErrNone
}

// permitted returns the range of the critical frequencies that a reading permits.
func permitted(r api.TraceReading, shift api.Range) api.Range {
	if r.Tag == api.TraceExtra {
		return api.Range{Lo: r.Value.Lo - shift.Hi, Hi: r.Value.Hi - shift.Lo}
	}
	return r.Value
}

func common(a, b api.Range) api.Range {
	return api.Range{Lo: max(a.Lo, b.Lo), Hi: min(a.Hi, b.Hi)}
}

func isEmpty(r api.Range) bool {
	return r.Lo > r.Hi
}

// readingsError returns the error of readings, and then that of a shift.
func readingsError(l []api.TraceReading, shift api.Range) api.Errno {
	e := firstError(
		errorIf(len(l) == 0, api.ErrShape),
		errorIf(len(l) > api.MaxTraceReadings, api.ErrLarge),
	)
	if e != api.OK {
		return e
	}
	_, e = firstBad(l, func(_ int, r api.TraceReading) api.Errno {
		return firstError(tagError(r.Tag), rangeError(r.Value, api.MaxTraceFrequency))
	})
	return firstError(e, rangeError(shift, api.MaxTraceFrequency))
}
