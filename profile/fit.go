package profile

import "skywave/api"

// lastThickness is the thickness of the last slab of a fitted profile, of which a trace says nothing.
const lastThickness = 1

// Fitted returns the fitted profile of a trace without a valley; otherwise, the index of the point and its error.
func Fitted(t api.ProfileTrace) (api.ProfileSky, int, api.Errno) {
	c, e := checked(t)
	if e = firstError(e, errorIf(t.Width > 0, api.ErrKind)); e != api.OK {
		return api.ProfileSky{}, 0, e
	}
	p := api.ProfileSky{Base: c.Points[0].Pixel.Lo}
	if p.Base > api.MaxProfileThickness {
		return api.ProfileSky{}, 0, api.ErrBreak
	}
	for k := range c.slabs() {
		slab, e := c.fittedSlab(p, k)
		if e != api.OK {
			return api.ProfileSky{}, k + 1, e
		}
		p.Slabs = append(p.Slabs, slab)
	}
	last := api.ProfileSlab{Square: c.square(c.slabs()), Thickness: lastThickness}
	p.Slabs = append(p.Slabs, last)
	return p, 0, api.OK
}

// AgreesWith returns for each point of a trace whether a profile agrees with it.
func AgreesWith(p api.ProfileSky, t api.ProfileTrace) ([]int, api.Errno) {
	c, e := checked(t)
	if e = firstError(profileError(p), e); e != api.OK {
		return nil, e
	}
	answers := make([]int, len(c.Points))
	for i := range len(c.Points) {
		answers[i] = agreement(p, c.Points[i])
	}
	return answers, api.OK
}

// fittedSlab returns the slab k, and the error of the point above it, by the profile of the slabs below.
func (c checkedTrace) fittedSlab(p api.ProfileSky, k int) (api.ProfileSlab, api.Errno) {
	point := c.Points[k+1]
	below := delayOf(p, point.Frequency)
	index := c.index(k, k+1)
	// A virtual height that is rounded up reaches the pixel as soon as it is above the kilometre before.
	missing := scale*(point.Pixel.Lo-1) + 1 - below.Hi
	thickness := dividedUp(max(0, missing), index.Hi)
	e := firstError(
		errorIf(thickness > api.MaxProfileThickness, api.ErrBreak),
		errorIf((below.Lo+thickness*index.Lo)/scale > point.Pixel.Hi, api.ErrNone),
	)
	return api.ProfileSlab{Square: c.square(k), Thickness: thickness}, e
}

func agreement(p api.ProfileSky, point api.ProfilePoint) int {
	virtual, e := VirtualAt(p, point.Frequency)
	switch {
	case e != api.OK || virtual.Hi < point.Pixel.Lo || virtual.Lo > point.Pixel.Hi:
		return api.AnswerNo
	case virtual.Lo >= point.Pixel.Lo && virtual.Hi <= point.Pixel.Hi:
		return api.AnswerYes
	}
	return api.AnswerMaybe
}
