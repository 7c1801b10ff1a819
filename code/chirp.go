package code

import "skywave/api"

// CheckChirp returns the error of a chirp.
func CheckChirp(c api.CodeChirp) api.Errno {
	bad := outside(c.Start, 0, api.MaxCodeFrequency) ||
		outside(c.Num, 0, api.MaxCodeSlope) ||
		outside(c.Den, 1, api.MaxCodeSlope)
	return errorIf(bad, api.ErrRange)
}

// ChirpAt returns the frequency of a chirp at a tick.
func ChirpAt(c api.CodeChirp, tick int) (int, api.Errno) {
	e := firstError(CheckChirp(c), errorIf(outside(tick, 0, api.MaxCodeTick), api.ErrRange))
	if e != api.OK {
		return 0, e
	}
	return frequency(c, tick), api.OK
}

// RisesOf returns all ticks below count at which a chirp rises.
func RisesOf(c api.CodeChirp, count int) ([]int, api.Errno) {
	e := firstError(CheckChirp(c), errorIf(outside(count, 0, api.MaxCodeSamples), api.ErrRange))
	if e != api.OK {
		return nil, e
	}
	var rises []int
	for tick := 1; tick < count; tick++ {
		if frequency(c, tick) > frequency(c, tick-1) {
			rises = append(rises, tick)
		}
	}
	return rises, api.OK
}

// ChirpWave returns the first numbers of the wave of a chirp.
func ChirpWave(c api.CodeChirp, count int) ([]api.Gauss, api.Errno) {
	e := firstError(CheckChirp(c), errorIf(outside(count, 1, api.MaxCodeLength), api.ErrRange))
	if e != api.OK {
		return nil, e
	}
	wave := make([]api.Gauss, count)
	phase := 0
	for tick := range count {
		wave[tick] = powersOfI[phase]
		phase = (phase + frequency(c, tick)) % len(powersOfI)
	}
	return wave, api.OK
}

func frequency(c api.CodeChirp, tick int) int {
	return c.Start + tick*c.Num/c.Den
}
