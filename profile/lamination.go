package profile

import "skywave/api"

// CheckTrace returns the error of a trace, and the index of its point.
func CheckTrace(t api.ProfileTrace) (int, api.Errno) {
	e := firstError(
		errorIf(len(t.Points) == 0, api.ErrShape),
		errorIf(len(t.Points) > api.MaxProfilePoints, api.ErrLarge),
		errorIf(outside(t.Width, 0, api.MaxProfileThickness), api.ErrRange),
		errorIf(outside(t.After, 0, len(t.Points)-1), api.ErrMissing),
	)
	if e != api.OK {
		return 0, e
	}
	return firstBad(t.Points, func(i int, point api.ProfilePoint) api.Errno {
		return firstError(
			frequencyError(point.Frequency),
			pixelError(point.Pixel),
			errorIf(i > 0 && point.Frequency <= t.Points[i-1].Frequency, api.ErrOrder),
		)
	})
}

// Laminated returns the thicknesses of all slabs of a trace; with ErrClash, the index of the first point that contradicts those below.
func Laminated(t api.ProfileTrace) ([]api.Range, int, api.Errno) {
	c, e := checked(t)
	if e != api.OK {
		return nil, 0, e
	}
	return c.laminated()
}

// HeightsOf returns the true heights of all points of a trace.
func HeightsOf(t api.ProfileTrace) ([]api.Range, api.Errno) {
	slabs, _, e := Laminated(t)
	if e != api.OK {
		return nil, e
	}
	heights := []api.Range{t.Points[0].Pixel}
	for k, thickness := range slabs {
		next := api.Range{Lo: heights[k].Lo + thickness.Lo, Hi: heights[k].Hi + thickness.Hi}
		if k == t.After {
			next.Hi += t.Width
		}
		heights = append(heights, next)
	}
	return heights, api.OK
}

// checkedTrace is a valid trace.
type checkedTrace struct{ api.ProfileTrace }

func checked(t api.ProfileTrace) (checkedTrace, api.Errno) {
	if _, e := CheckTrace(t); e != api.OK {
		return checkedTrace{}, e
	}
	return checkedTrace{t}, api.OK
}

// slabs returns the number of slabs, each of which lies between two points.
func (c checkedTrace) slabs() int {
	return len(c.Points) - 1
}

// square returns the square of the slab above a point.
func (c checkedTrace) square(point int) int {
	return c.Points[point].Frequency * c.Points[point].Frequency
}

// index returns the index in a slab of the frequency of a point above it.
func (c checkedTrace) index(slab, point int) api.Range {
	return indexOf(c.square(slab), c.Points[point].Frequency)
}

func (c checkedTrace) laminated() ([]api.Range, int, api.Errno) {
	var slabs []api.Range
	for k := range c.slabs() {
		left := c.left(slabs)
		if left.Hi < 0 {
			return nil, k + 1, api.ErrClash
		}
		index := c.index(k, k+1)
		slabs = append(slabs, api.Range{Lo: max(0, left.Lo) / index.Hi, Hi: dividedUp(left.Hi, index.Lo)})
	}
	return slabs, 0, api.OK
}

// left returns how many thousandths of the next point's virtual height the slabs below, of which the thicknesses are given, leave for the next slab: from A to B.
func (c checkedTrace) left(below []api.Range) api.Range {
	k := len(below)
	first, next := c.Points[0].Pixel, c.Points[k+1].Pixel
	left := api.Range{Lo: scale * (next.Lo - first.Hi), Hi: scale * (next.Hi - first.Lo)}
	for j, thickness := range below {
		index := c.index(j, k+1)
		left.Lo -= thickness.Hi * index.Hi
		left.Hi -= thickness.Lo * index.Lo
	}
	if k >= c.After {
		left.Lo -= c.Width * c.index(c.After, k+1).Hi
	}
	return left
}

func pixelError(pixel api.Range) api.Errno {
	return firstError(
		errorIf(outside(pixel.Lo, 0, api.MaxProfileVirtual) || outside(pixel.Hi, 0, api.MaxProfileVirtual), api.ErrRange),
		errorIf(pixel.Lo > pixel.Hi, api.ErrOrder),
	)
}
