package profile

import (
	"iter"
	"sort"

	"skywave/api"
)

// scale is the index of a frequency where the square is 0: an index is in thousandths.
const scale = 1000

// IndexAt returns the index of a frequency for a square.
func IndexAt(square, frequency int) (api.Range, api.Errno) {
	if e := firstError(squareError(square), frequencyError(frequency)); e != api.OK {
		return api.Range{}, e
	}
	if !passes(frequency, square) {
		return api.Range{}, api.ErrNone
	}
	return indexOf(square, frequency), api.OK
}

// ReflectedAt returns the true height of a frequency, and the index of the slab that reflects it.
func ReflectedAt(p api.ProfileSky, frequency int) (int, int, api.Errno) {
	if e := firstError(profileError(p), frequencyError(frequency)); e != api.OK {
		return 0, 0, e
	}
	height, slabs := p.Base, 0
	for slab := range passed(p, frequency) {
		height += slab.Thickness
		slabs++
	}
	if slabs == len(p.Slabs) {
		return 0, 0, api.ErrOpen
	}
	return height, slabs, api.OK
}

// VirtualAt returns the virtual height of a frequency.
func VirtualAt(p api.ProfileSky, frequency int) (api.Range, api.Errno) {
	if _, _, e := ReflectedAt(p, frequency); e != api.OK {
		return api.Range{}, e
	}
	sum := delayOf(p, frequency)
	return api.Range{Lo: sum.Lo / scale, Hi: dividedUp(sum.Hi, scale)}, api.OK
}

// TraceOf returns the trace of a profile by some frequencies; otherwise, the index of the frequency and its error.
func TraceOf(p api.ProfileSky, frequencies []int) (api.ProfileTrace, int, api.Errno) {
	e := firstError(
		profileError(p),
		errorIf(len(frequencies) == 0, api.ErrShape),
		errorIf(len(frequencies) > api.MaxProfilePoints, api.ErrLarge),
	)
	if e != api.OK {
		return api.ProfileTrace{}, 0, e
	}
	points := make([]api.ProfilePoint, len(frequencies))
	i, e := firstBad(frequencies, func(i, frequency int) api.Errno {
		virtual, e := VirtualAt(p, frequency)
		points[i] = api.ProfilePoint{Frequency: frequency, Pixel: virtual}
		return firstError(
			frequencyError(frequency),
			errorIf(i > 0 && frequency <= frequencies[i-1], api.ErrOrder),
			e,
			errorIf(virtual.Hi > api.MaxProfileVirtual, api.ErrBreak),
		)
	})
	if e != api.OK {
		return api.ProfileTrace{}, i, e
	}
	return api.ProfileTrace{Points: points}, 0, api.OK
}

func frequencyError(frequency int) api.Errno {
	return errorIf(outside(frequency, 1, api.MaxProfileFrequency), api.ErrRange)
}

func passes(frequency, square int) bool {
	return square < frequency*frequency
}

// indexOf returns the index of a frequency for a square that it passes.
func indexOf(square, frequency int) api.Range {
	all := scale * scale * frequency * frequency
	rest := frequency*frequency - square
	// The whole quotient decides as the exact one would; squares times rest could overflow far above the root.
	least := dividedUp(all, rest)
	hi := sort.Search(scale*frequency, func(m int) bool { return m*m >= least })
	if hi*hi*rest == all {
		return api.Range{Lo: hi, Hi: hi}
	}
	return api.Range{Lo: hi - 1, Hi: hi}
}

// passed ranges over the slabs that a frequency passes before it is reflected.
func passed(p api.ProfileSky, frequency int) iter.Seq[api.ProfileSlab] {
	return func(yield func(api.ProfileSlab) bool) {
		for _, slab := range p.Slabs {
			if !passes(frequency, slab.Square) || !yield(slab) {
				return
			}
		}
	}
}

// delayOf returns the virtual height of a frequency in thousandths of a kilometre.
func delayOf(p api.ProfileSky, frequency int) api.Range {
	sum := api.Range{Lo: scale * p.Base, Hi: scale * p.Base}
	for slab := range passed(p, frequency) {
		index := indexOf(slab.Square, frequency)
		sum.Lo += slab.Thickness * index.Lo
		sum.Hi += slab.Thickness * index.Hi
	}
	return sum
}
