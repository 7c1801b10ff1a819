package ray

import (
	"slices"

	"skywave/api"
)

// shot is a valid ray in a valid sky.
type shot struct {
	api.RaySky
	api.RayShot
}

func shotOf(s api.RaySky, frequency int, launch api.Frac) (shot, api.Errno) {
	r := api.RayShot{Frequency: frequency, Launch: launch}
	if e := firstError(skyError(s), shotError(r)); e != api.OK {
		return shot{}, e
	}
	return shot{s, r}, api.OK
}

// passed returns the number of slabs that the ray passes, which is also the index of the slab that reflects it.
func (x shot) passed() int {
	i := slices.IndexFunc(x.Slabs, func(slab api.RaySlab) bool {
		return isAtMost(indexOf(slab.Square, x.Frequency), x.Launch)
	})
	if i < 0 {
		return len(x.Slabs)
	}
	return i
}

func (x shot) escapes() bool {
	return x.passed() == len(x.Slabs)
}

// sine returns the sine square in a slab that the ray passes.
func (x shot) sine(slab api.RaySlab) api.Frac {
	index := indexOf(slab.Square, x.Frequency)
	return reduced(x.Launch.Num*index.Den, x.Launch.Den*index.Num)
}

// legs ranges over the legs of the ray.
func (x shot) legs(yield func(api.Range) bool) {
	if !yield(x.leg(api.RaySlab{Thickness: x.Height})) {
		return
	}
	for _, slab := range x.Slabs[:x.passed()] {
		if !yield(x.leg(slab)) {
			return
		}
	}
}

// leg returns the leg of a slab that the ray passes, or of free space as a slab with the square 0.
func (x shot) leg(slab api.RaySlab) api.Range {
	index := indexOf(slab.Square, x.Frequency)
	thickness := api.RayParts * slab.Thickness
	num := x.Launch.Num * index.Den
	return rootOf(thickness*thickness*num, x.Launch.Den*index.Num-num)
}

// half returns the sum of the legs, which is half of the ground distance of a ray that is reflected.
func (x shot) half() api.Range {
	var sum api.Range
	for leg := range x.legs {
		sum.Lo += leg.Lo
		sum.Hi += leg.Hi
	}
	return sum
}

func (x shot) ground() api.Range {
	return times(x.half(), 2)
}

// mirrorHeight returns the mirror height of a launch above 0 whose ground distance is at most MaxRayDistance, beyond which squares could overflow.
func (x shot) mirrorHeight() api.Range {
	half := x.half()
	num, den := x.Launch.Den-x.Launch.Num, x.Launch.Num
	return api.Range{
		Lo: rootOf(half.Lo*half.Lo*num, den).Lo,
		Hi: rootOf(half.Hi*half.Hi*num, den).Hi,
	}
}

func shotError(r api.RayShot) api.Errno {
	return firstError(frequencyError(r.Frequency), launchError(r.Launch))
}

// indexOf returns the index square of a slab by its square.
func indexOf(square, frequency int) api.Frac {
	return indexWith(square, frequency, 0)
}

func times(r api.Range, factor int) api.Range {
	return api.Range{Lo: factor * r.Lo, Hi: factor * r.Hi}
}
