package echo

import "skywave/api"

// CoherentSum returns the sum of frames, sample by sample, each one turned by its quarters.
func CoherentSum(l [][]api.Gauss, turns []int) ([]api.Gauss, api.Errno) {
	if e := framesError(l, turns); e != api.OK {
		return nil, e
	}
	list := make([]api.Gauss, len(l[0]))
	for k := range list {
		sum := complex128(0)
		for j, x := range l {
			sum += turned(number(x[k]), turns[j])
		}
		list[k] = gauss(sum)
	}
	return list, api.OK
}

func framesError(l [][]api.Gauss, turns []int) api.Errno {
	e := firstError(
		errorIf(len(l) == 0 || len(turns) != len(l), api.ErrShape),
		errorIf(len(l) > api.MaxEchoFrames, api.ErrLarge),
	)
	if e != api.OK {
		return e
	}
	_, e = firstBad(l, func(j int, x []api.Gauss) api.Errno {
		return firstError(
			errorIf(len(x) != len(l[0]), api.ErrShape),
			samplesError(x),
			errorIf(outside(turns[j], 0, 3), api.ErrRange),
		)
	})
	return e
}
