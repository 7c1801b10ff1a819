package echo

import "skywave/api"

// octantWidth is the eighth part of a turn.
const octantWidth = api.EchoTurn / 8

// CheckReading returns the error of a reading.
func CheckReading(r api.EchoReading) api.Errno {
	return firstError(
		spacingError(r.Spacing),
		errorIf(outside(r.Phase, 0, api.EchoTurn-1), api.ErrRange),
		wrongError(r.Error),
	)
}

// PhaseOf returns the phase of a direction for a spacing.
func PhaseOf(spacing, direction int) (int, api.Errno) {
	e := firstError(
		spacingError(spacing),
		errorIf(outside(direction, -api.MaxEchoDirection, api.MaxEchoDirection), api.ErrRange),
	)
	if e != api.OK {
		return 0, e
	}
	return phase(spacing, direction), api.OK
}

// OctantOf returns the octant of a number.
func OctantOf(g api.Gauss) (int, api.Errno) {
	e := firstError(
		errorIf(beyond(g, api.MaxEchoPower), api.ErrRange),
		errorIf(g == api.Gauss{}, api.ErrZero),
	)
	if e != api.OK {
		return 0, e
	}
	return octant(number(g)), api.OK
}

// ReadingOf returns the reading of two samples for a spacing.
func ReadingOf(a, b api.Gauss, spacing int) (api.EchoReading, api.Errno) {
	e := firstError(
		samplesError([]api.Gauss{a, b}),
		spacingError(spacing),
		errorIf(a == api.Gauss{} || b == api.Gauss{}, api.ErrZero),
	)
	if e != api.OK {
		return api.EchoReading{}, e
	}
	o := octant(number(b) * conjugate(number(a)))
	return api.EchoReading{
		Spacing: spacing,
		Phase:   octantWidth*o + octantWidth/2,
		Error:   octantWidth / 2,
	}, api.OK
}

func phase(spacing, direction int) int {
	rest := spacing * direction % api.EchoTurn
	if rest < 0 {
		return rest + api.EchoTurn
	}
	return rest
}

// distance returns the distance of two phases.
func distance(a, b int) int {
	apart := max(a-b, b-a)
	return min(apart, api.EchoTurn-apart)
}

// octant turns a number back, quarter by quarter, until it lies in the first one, where its parts decide.
func octant(z complex128) int {
	for quarter := range 4 {
		first := turned(z, -quarter)
		re, im := real(first), imag(first)
		switch {
		case re > 0 && im >= re:
			return 2*quarter + 1
		case re > 0 && im >= 0:
			return 2 * quarter
		}
	}
	return 0
}
