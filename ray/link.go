package ray

import (
	"slices"

	"skywave/api"
)

// CheckLink returns the error of a link, and the index of the slab.
func CheckLink(l api.RayLink) (int, api.Errno) {
	for _, sky := range skiesOf(l) {
		if i, e := CheckSky(sky); e != api.OK {
			return i, e
		}
	}
	if l.Up.Height != l.Down.Height || len(l.Up.Slabs) != len(l.Down.Slabs) {
		return 0, api.ErrClash
	}
	return firstBad(l.Up.Slabs, func(i int, slab api.RaySlab) api.Errno {
		return errorIf(slab.Thickness != l.Down.Slabs[i].Thickness, api.ErrClash)
	})
}

// MirrorOf returns the mirror of a link.
func MirrorOf(l api.RayLink) (api.RayLink, api.Errno) {
	if e := linkError(l); e != api.OK {
		return api.RayLink{}, e
	}
	skies := skiesOf(l)
	for i, sky := range skies {
		skies[i].Slabs = slices.Clone(sky.Slabs)
	}
	return api.RayLink{Up: skies[1], Down: skies[0]}, api.OK
}

// DistanceOf returns the distance of a link.
func DistanceOf(l api.RayLink, r api.RayShot) (api.Range, api.Errno) {
	if e := firstError(linkError(l), shotError(r)); e != api.OK {
		return api.Range{}, e
	}
	up := shot{l.Up, r}
	if up.escapes() {
		return api.Range{}, api.ErrOpen
	}
	var distance api.Range
	for _, sky := range skiesOf(l) {
		way := shot{below(sky, up.passed()), r}
		if !way.escapes() {
			return api.Range{}, api.ErrBreak
		}
		half := way.half()
		distance.Lo += half.Lo
		distance.Hi += half.Hi
	}
	return distance, api.OK
}

// skiesOf returns the skies of a link, first the one in which a ray goes up.
func skiesOf(l api.RayLink) [2]api.RaySky {
	return [2]api.RaySky{l.Up, l.Down}
}

func linkError(l api.RayLink) api.Errno {
	_, e := CheckLink(l)
	return e
}

// below returns the part of a sky below one of its slabs.
func below(s api.RaySky, slab int) api.RaySky {
	return api.RaySky{Height: s.Height, Slabs: s.Slabs[:slab]}
}
