package ray

import (
	"iter"

	"skywave/api"
)

// SecantOf returns the secant frequency of a launch.
func SecantOf(s api.RaySky, launch api.Frac) (int, api.Errno) {
	if e := firstError(skyError(s), launchError(launch)); e != api.OK {
		return 0, e
	}
	// A slab reflects if F (1 - S) is at most N: the one with the greatest N decides.
	greatest := greatestSquare(s) * launch.Den / (launch.Den - launch.Num)
	return min(rootBelow(greatest), api.MaxRayFrequency), api.OK
}

// LaunchOf returns the fraction of a launch of a grid.
func LaunchOf(grid, launch int) (api.Frac, api.Errno) {
	e := firstError(gridError(grid), errorIf(!isLaunch(grid, launch), api.ErrMissing))
	if e != api.OK {
		return api.Frac{}, e
	}
	return reduced(launch, grid), api.OK
}

// SkipOf returns the skip of a frequency on a grid.
func SkipOf(s api.RaySky, frequency, grid int) (api.RaySkip, api.Errno) {
	e := firstError(skyError(s), frequencyError(frequency), gridError(grid))
	if e != api.OK {
		return api.RaySkip{}, e
	}
	var skip api.RaySkip
	found := false
	for k, x := range shotsOf(s, frequency, grid) {
		if x.escapes() {
			continue
		}
		ground := x.ground()
		if !found {
			skip, found = api.RaySkip{Distance: ground, Launch: k}, true
		}
		skip.Distance.Lo = min(skip.Distance.Lo, ground.Lo)
		if ground.Hi < skip.Distance.Hi {
			skip.Distance.Hi, skip.Launch = ground.Hi, k
		}
	}
	return skip, errorIf(!found, api.ErrNone)
}

// shotsOf ranges over the launches of a grid, and the rays with them.
func shotsOf(s api.RaySky, frequency, grid int) iter.Seq2[int, shot] {
	return func(yield func(int, shot) bool) {
		for k := range grid {
			r := api.RayShot{Frequency: frequency, Launch: reduced(k, grid)}
			if !yield(k, shot{s, r}) {
				return
			}
		}
	}
}

func isLaunch(grid, launch int) bool {
	return !outside(launch, 0, grid-1)
}

func gridError(grid int) api.Errno {
	return errorIf(outside(grid, 1, api.MaxRayGrid), api.ErrRange)
}

func launchError(launch api.Frac) api.Errno {
	return firstError(
		errorIf(launch.Den < 1 || commonDivisor(launch.Num, launch.Den) > 1, api.ErrForm),
		errorIf(launch.Den > api.MaxRayGrid || !isLaunch(launch.Den, launch.Num), api.ErrRange),
	)
}
