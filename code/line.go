package code

import "skywave/api"

const maxMissing = 2 * api.MaxCodeLength

// Compressed returns the line to which a wave compresses a frame.
func Compressed(f api.CodeFrame, wave []api.Gauss) (api.CodeLine, api.Errno) {
	c, e := checked(f)
	e = firstError(e, waveError(wave), errorIf(len(wave) > len(f.Samples), api.ErrShape))
	if e != api.OK {
		return api.CodeLine{}, e
	}
	line := newLine(len(c.Samples) - len(wave) + 1)
	for lag := range line.Values {
		line.Values[lag], line.Missing[lag] = c.compressedAt(wave, lag)
	}
	return line, api.OK
}

// Combined returns the sums of two lines, lag by lag.
func Combined(a, b api.CodeLine) (api.CodeLine, api.Errno) {
	e := firstError(
		lineError(a),
		lineError(b),
		errorIf(len(a.Values) != len(b.Values), api.ErrClash),
	)
	if e != api.OK {
		return api.CodeLine{}, e
	}
	line := newLine(len(a.Values))
	for lag := range line.Values {
		line.Values[lag].Re = a.Values[lag].Re + b.Values[lag].Re
		line.Values[lag].Im = a.Values[lag].Im + b.Values[lag].Im
		line.Missing[lag] = a.Missing[lag] + b.Missing[lag]
		if beyond(line.Values[lag], api.MaxCodeValue) || line.Missing[lag] > maxMissing {
			return api.CodeLine{}, api.ErrLarge
		}
	}
	return line, api.OK
}

// LevelAt returns the level of a line at a lag: an enclosure of the square of the size.
func LevelAt(l api.CodeLine, lag, budget int) (api.Range, api.Errno) {
	e := firstError(lineError(l), lagError(l, lag), budgetError(budget))
	if e != api.OK {
		return api.Range{}, e
	}
	return level(l, lag, budget), api.OK
}

// PeaksOf returns the lags of all peaks of a line.
func PeaksOf(l api.CodeLine, r api.CodeRule) ([]int, api.Errno) {
	if e := firstError(lineError(l), ruleError(r)); e != api.OK {
		return nil, e
	}
	low := func(lag int) int { return level(l, lag, r.Budget).Lo }
	last := len(l.Values) - 1
	var peaks []int
	for lag := range l.Values {
		if answer(l, lag, r) == api.AnswerYes &&
			low(lag) >= low(max(lag-1, 0)) &&
			low(lag) >= low(min(lag+1, last)) {
			peaks = append(peaks, lag)
		}
	}
	return peaks, api.OK
}

// AnswerAt returns whether a line has an echo at a lag.
func AnswerAt(l api.CodeLine, lag int, r api.CodeRule) (int, api.Errno) {
	e := firstError(lineError(l), lagError(l, lag), ruleError(r))
	if e != api.OK {
		return 0, e
	}
	return answer(l, lag, r), api.OK
}

func newLine(length int) api.CodeLine {
	return api.CodeLine{Values: make([]api.Gauss, length), Missing: make([]int, length)}
}

// compressedAt returns the value at a lag, and the number of samples that were missing for it.
func (c checkedFrame) compressedAt(wave []api.Gauss, lag int) (api.Gauss, int) {
	sum, missing := complex128(0), 0
	for i, w := range wave {
		if c.usable[lag+i] {
			sum += conjugate(number(w)) * number(c.Samples[lag+i])
		} else {
			missing++
		}
	}
	return gauss(sum), missing
}

func level(l api.CodeLine, lag, budget int) api.Range {
	doubt := l.Missing[lag] * budget
	re := squaresAround(l.Values[lag].Re, doubt)
	im := squaresAround(l.Values[lag].Im, doubt)
	return api.Range{Lo: re.Lo + im.Lo, Hi: re.Hi + im.Hi}
}

// squaresAround encloses the squares of all numbers that differ from n by at most doubt.
func squaresAround(n, doubt int) api.Range {
	size := max(n, -n)
	least, most := max(size-doubt, 0), size+doubt
	return api.Range{Lo: least * least, Hi: most * most}
}

func answer(l api.CodeLine, lag int, r api.CodeRule) int {
	x, threshold := level(l, lag, r.Budget), r.Threshold*r.Threshold
	switch {
	case x.Lo >= threshold:
		return api.AnswerYes
	case x.Hi < threshold:
		return api.AnswerNo
	}
	return api.AnswerMaybe
}

func waveError(wave []api.Gauss) api.Errno {
	if e := lengthError(len(wave), api.MaxCodeLength); e != api.OK {
		return e
	}
	_, e := firstBad(wave, func(_ int, w api.Gauss) api.Errno {
		return errorIf(!isPowerOfI(w), api.ErrForm)
	})
	return e
}

func isPowerOfI(g api.Gauss) bool {
	for _, power := range powersOfI {
		if g == power {
			return true
		}
	}
	return false
}

func lineError(l api.CodeLine) api.Errno {
	e := firstError(
		errorIf(len(l.Missing) != len(l.Values), api.ErrShape),
		lengthError(len(l.Values), api.MaxCodeSamples),
	)
	if e != api.OK {
		return e
	}
	_, e = firstBad(l.Values, func(lag int, value api.Gauss) api.Errno {
		return errorIf(beyond(value, api.MaxCodeValue) || outside(l.Missing[lag], 0, maxMissing), api.ErrRange)
	})
	return e
}

func lagError(l api.CodeLine, lag int) api.Errno {
	return errorIf(outside(lag, 0, len(l.Values)-1), api.ErrMissing)
}

func budgetError(budget int) api.Errno {
	return errorIf(outside(budget, 0, api.MaxCodeLimit), api.ErrRange)
}

func ruleError(r api.CodeRule) api.Errno {
	return firstError(
		budgetError(r.Budget),
		errorIf(outside(r.Threshold, 0, api.MaxCodeValue), api.ErrRange),
	)
}
