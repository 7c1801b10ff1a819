package echo

import "skywave/api"

const maxDen = 1000

// CheckModes returns the error of modes.
func CheckModes(m api.EchoModes) api.Errno {
	return firstError(
		errorIf(beyond(m.Ordinary, api.MaxEchoWeight) || beyond(m.Extra, api.MaxEchoWeight), api.ErrRange),
		errorIf(m.Ordinary == m.Extra, api.ErrZero),
	)
}

// Mixed returns the sample that is mixed from an ordinary and an extraordinary part.
func Mixed(m api.EchoModes, parts [2]api.Gauss) ([2]api.Gauss, api.Errno) {
	c, e := checked(m)
	if e = firstError(e, samplesError(parts[:])); e != api.OK {
		return [2]api.Gauss{}, e
	}
	x := c.mixed(number(parts[0]), number(parts[1]))
	return [2]api.Gauss{gauss(x[0]), gauss(x[1])}, api.OK
}

// Separated returns the separation of a sample.
func Separated(m api.EchoModes, x [2]api.Gauss) (api.EchoSplit, api.Errno) {
	c, e := checked(m)
	if e = firstError(e, samplesError(x[:])); e != api.OK {
		return api.EchoSplit{}, e
	}
	return c.separated(x), api.OK
}

// CheckSplit accepts the separation of a sample by mixing it again; the index is that of the antenna whose sample differs.
func CheckSplit(m api.EchoModes, x [2]api.Gauss, s api.EchoSplit) (int, api.Errno) {
	c, e := checked(m)
	if e = firstError(e, samplesError(x[:]), splitError(s)); e != api.OK {
		return 0, e
	}
	again := c.mixed(number(s.Ordinary), number(s.Extra))
	return firstBad(x[:], func(i int, g api.Gauss) api.Errno {
		multiple := api.Gauss{Re: s.Den * g.Re, Im: s.Den * g.Im}
		return errorIf(again[i] != number(multiple), api.ErrProof)
	})
}

// checkedModes is valid modes, and the difference of their weights, which is not 0.
type checkedModes struct {
	api.EchoModes
	gap complex128
}

// sample is the sample of both antennas.
type sample [2]complex128

func checked(m api.EchoModes) (checkedModes, api.Errno) {
	if e := CheckModes(m); e != api.OK {
		return checkedModes{}, e
	}
	return checkedModes{EchoModes: m, gap: number(m.Ordinary) - number(m.Extra)}, api.OK
}

func (c checkedModes) mixed(ordinary, extra complex128) sample {
	return sample{
		ordinary + extra,
		number(c.Ordinary)*ordinary + number(c.Extra)*extra,
	}
}

// separated multiplies by the conjugate of the gap, so that the denominator is whole.
func (c checkedModes) separated(x [2]api.Gauss) api.EchoSplit {
	first, second := number(x[0]), number(x[1])
	factor := conjugate(c.gap)
	return reduced(api.EchoSplit{
		Ordinary: gauss((second - number(c.Extra)*first) * factor),
		Extra:    gauss((number(c.Ordinary)*first - second) * factor),
		Den:      squareOf(gauss(c.gap)),
	})
}

func reduced(s api.EchoSplit) api.EchoSplit {
	d := divisorOf(s)
	return api.EchoSplit{
		Ordinary: api.Gauss{Re: s.Ordinary.Re / d, Im: s.Ordinary.Im / d},
		Extra:    api.Gauss{Re: s.Extra.Re / d, Im: s.Extra.Im / d},
		Den:      s.Den / d,
	}
}

func splitError(s api.EchoSplit) api.Errno {
	if outside(s.Den, 1, maxDen) || beyond(s.Ordinary, api.MaxEchoSplit) || beyond(s.Extra, api.MaxEchoSplit) {
		return api.ErrRange
	}
	return errorIf(divisorOf(s) != 1, api.ErrForm)
}

// divisorOf returns the greatest number that divides Den and all parts of both numerators.
func divisorOf(s api.EchoSplit) int {
	d := s.Den
	for _, part := range [4]int{s.Ordinary.Re, s.Ordinary.Im, s.Extra.Re, s.Extra.Im} {
		d = commonDivisor(d, part)
	}
	return d
}

// commonDivisor is Euclid's algorithm; b may be negative.
func commonDivisor(a, b int) int {
	for b != 0 {
		a, b = b, a%b
	}
	return max(a, -a)
}
