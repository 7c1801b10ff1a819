package echo

import "skywave/api"

// LagProduct returns the lag product of samples.
func LagProduct(x []api.Gauss) (api.Gauss, api.Errno) {
	e := firstError(errorIf(len(x) < 2, api.ErrShape), samplesError(x))
	if e != api.OK {
		return api.Gauss{}, e
	}
	sum := complex128(0)
	for k := range len(x) - 1 {
		sum += conjugate(number(x[k])) * number(x[k+1])
	}
	return gauss(sum), api.OK
}

// LinesOf returns the four lines of samples.
func LinesOf(x []api.Gauss) ([4]api.Gauss, api.Errno) {
	e := firstError(errorIf(len(x) == 0, api.ErrShape), samplesError(x))
	if e != api.OK {
		return [4]api.Gauss{}, e
	}
	return turnedSums(x, -1), api.OK
}

// SumsOf returns the sums of the samples with four lines.
func SumsOf(h [4]api.Gauss) ([4]api.Gauss, api.Errno) {
	_, e := firstBad(h[:], func(_ int, line api.Gauss) api.Errno {
		return errorIf(beyond(line, api.MaxEchoSum), api.ErrRange)
	})
	if e != api.OK {
		return [4]api.Gauss{}, e
	}
	sums := turnedSums(h[:], 1)
	for q, sum := range sums {
		if sum.Re%4 != 0 || sum.Im%4 != 0 {
			return [4]api.Gauss{}, api.ErrForm
		}
		sums[q] = api.Gauss{Re: sum.Re / 4, Im: sum.Im / 4}
	}
	return sums, api.OK
}

// DopplerOf returns the number of the strongest line of samples.
func DopplerOf(x []api.Gauss) (int, api.Errno) {
	h, e := LinesOf(x)
	if e = firstError(e, errorIf(h == [4]api.Gauss{}, api.ErrZero)); e != api.OK {
		return 0, e
	}
	strongest := 0
	for n := range h {
		if squareOf(h[n]) > squareOf(h[strongest]) {
			strongest = n
		}
	}
	return strongest, api.OK
}

// turnedSums returns, for n from 0 to 3, the sum of all numbers, number k being turned by n k quarters, ahead (1) or back (-1).
func turnedSums(list []api.Gauss, way int) [4]api.Gauss {
	var sums [4]api.Gauss
	for n := range 4 {
		sum := complex128(0)
		for k, g := range list {
			sum += turned(number(g), way*n*k)
		}
		sums[n] = gauss(sum)
	}
	return sums
}
