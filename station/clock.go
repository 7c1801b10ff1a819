package station

import "skywave/api"

// driftTicks is the number of ticks in which an offset changes by at most the drift.
const driftTicks = 1000

// CheckExchange returns the error of an exchange.
func CheckExchange(x api.StationExchange) api.Errno {
	return firstError(
		tickError(x.Sent),
		tickError(x.True),
		tickError(x.Received),
		errorIf(x.Received < x.Sent, api.ErrOrder),
	)
}

// OffsetBy returns the offset at a time by an exchange.
func OffsetBy(x api.StationExchange, drift, t int) (api.Range, api.Errno) {
	if e := firstError(CheckExchange(x), driftError(drift), tickError(t)); e != api.OK {
		return api.Range{}, e
	}
	return offsetBy(x, drift, t), api.OK
}

// OffsetAt returns the offset at a time by several exchanges.
func OffsetAt(l []api.StationExchange, drift, t int) (api.Range, api.Errno) {
	offsets, e := offsetsBy(l, drift, t)
	if e != api.OK {
		return api.Range{}, e
	}
	offset := offsets[0]
	for _, other := range offsets {
		offset = common(offset, other)
	}
	if isEmpty(offset) {
		return api.Range{}, api.ErrClash
	}
	return offset, api.OK
}

// Contradicting returns the indexes of the first two exchanges that contradict each other at a time.
func Contradicting(l []api.StationExchange, drift, t int) ([2]int, api.Errno) {
	offsets, e := offsetsBy(l, drift, t)
	if e != api.OK {
		return [2]int{}, e
	}
	for i, first := range offsets {
		for j := i + 1; j < len(offsets); j++ {
			if isEmpty(common(first, offsets[j])) {
				return [2]int{i, j}, api.OK
			}
		}
	}
	return [2]int{}, api.ErrNone
}

// TrueAt returns the range of the true times when the station's clock shows t.
func TrueAt(l []api.StationExchange, drift, t int) (api.Range, api.Errno) {
	offset, e := OffsetAt(l, drift, t)
	if e != api.OK {
		return api.Range{}, e
	}
	return api.Range{Lo: t + offset.Lo, Hi: t + offset.Hi}, api.OK
}

// offsetsBy returns the offset at a time by each of several exchanges, or their error.
func offsetsBy(l []api.StationExchange, drift, t int) ([]api.Range, api.Errno) {
	e := firstError(exchangesError(l), driftError(drift), tickError(t))
	if e != api.OK {
		return nil, e
	}
	var offsets []api.Range
	for _, x := range l {
		offsets = append(offsets, offsetBy(x, drift, t))
	}
	return offsets, api.OK
}

func offsetBy(x api.StationExchange, drift, t int) api.Range {
	distance := max(x.Sent-t, 0, t-x.Received)
	more := dividedUp(drift*distance, driftTicks)
	return api.Range{Lo: x.True - x.Received - more, Hi: x.True - x.Sent + more}
}

// common returns what two ranges have in common, which is empty if they have nothing.
func common(a, b api.Range) api.Range {
	return api.Range{Lo: max(a.Lo, b.Lo), Hi: min(a.Hi, b.Hi)}
}

func isEmpty(r api.Range) bool {
	return r.Lo > r.Hi
}

func exchangesError(l []api.StationExchange) api.Errno {
	_, e := firstBad(l, func(_ int, x api.StationExchange) api.Errno { return CheckExchange(x) })
	return firstError(
		errorIf(len(l) == 0, api.ErrShape),
		errorIf(len(l) > api.MaxStationExchanges, api.ErrLarge),
		e,
	)
}

func driftError(drift int) api.Errno {
	return rangeError(drift, 0, api.MaxStationDrift)
}
