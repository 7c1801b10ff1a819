package code

import "skywave/api"

// PowersOf returns the powers of the four harmonics in frames.
func PowersOf(l []api.CodeFrame) ([4]int, api.Errno) {
	frames, e := checkedFrames(l)
	if e != api.OK {
		return [4]int{}, e
	}
	var powers [4]int
	for _, c := range frames {
		for _, b := range c.blocks() {
			for n := range powers {
				powers[n] += squareOf(gauss(b.harmonic(n)))
			}
		}
	}
	return powers, api.OK
}

// LinesIn returns the harmonics that are lines of interference by a ratio.
func LinesIn(l []api.CodeFrame, ratio api.Frac) ([]int, api.Errno) {
	powers, e := PowersOf(l)
	if e = firstError(e, ratioError(ratio)); e != api.OK {
		return nil, e
	}
	all := 0
	for _, power := range powers {
		all += power
	}
	var lines []int
	for n, power := range powers {
		if 3*power*ratio.Den > ratio.Num*(all-power) {
			lines = append(lines, n)
		}
	}
	return lines, api.OK
}

// Cleaned returns a frame, amplified, from which harmonics were removed.
func Cleaned(f api.CodeFrame, lines []int) (api.CodeFrame, api.Errno) {
	c, e := checked(f)
	e = firstError(
		e,
		linesError(lines),
		errorIf(20*c.Limit > api.MaxCodeLimit, api.ErrLarge),
		errorIf(c.Gain-2 < -api.MaxCodeGain, api.ErrBreak),
	)
	if e != api.OK {
		return api.CodeFrame{}, e
	}
	samples := make([]api.Gauss, len(c.Samples))
	for i, sample := range c.Samples {
		samples[i] = api.Gauss{Re: 4 * sample.Re, Im: 4 * sample.Im}
	}
	for first, b := range c.blocks() {
		for q, z := range b.without(lines) {
			samples[first+q] = gauss(z)
		}
	}
	return api.CodeFrame{
		Gain:    c.Gain - 2,
		Limit:   20 * c.Limit,
		Samples: samples,
		Gaps:    c.indexes(false),
	}, api.OK
}

// blockLength is the number of samples of a block, and of its harmonics.
const blockLength = 4

type block [blockLength]complex128

func (b block) harmonic(n int) complex128 {
	sum := complex128(0)
	for q, z := range b {
		sum += z * powerOfI(-n*q)
	}
	return sum
}

// without returns 4 times the block, so that it remains whole, without some harmonics.
func (b block) without(harmonics []int) block {
	var rest block
	for q, z := range b {
		rest[q] = 4 * z
	}
	for _, n := range harmonics {
		h := b.harmonic(n)
		for q := range rest {
			rest[q] -= h * powerOfI(n*q)
		}
	}
	return rest
}

func linesError(lines []int) api.Errno {
	_, e := firstBad(lines, func(i, n int) api.Errno {
		return firstError(
			errorIf(outside(n, 0, blockLength-1), api.ErrRange),
			errorIf(i > 0 && n <= lines[i-1], api.ErrOrder),
		)
	})
	return e
}

func ratioError(r api.Frac) api.Errno {
	return firstError(
		errorIf(r.Den < 1 || !coprime(r.Num, r.Den), api.ErrForm),
		errorIf(outside(r.Num, 1, api.MaxCodeRatio) || r.Den > api.MaxCodeRatio, api.ErrRange),
	)
}

// coprime is Euclid's algorithm; remainders may be negative.
func coprime(a, b int) bool {
	for b != 0 {
		a, b = b, a%b
	}
	return a == 1 || a == -1
}
