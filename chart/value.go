package chart

import (
	"slices"

	"skywave/api"
)

// WeightsOf returns the weights of stations at a place.
func WeightsOf(l []api.ChartStation, at api.ChartPlace) ([]api.Frac, api.Errno) {
	if e := firstError(stationsError(l), placeError(at)); e != api.OK {
		return nil, e
	}
	shares := sharesAt(l, at)
	total := sumOf(shares)
	weights := make([]api.Frac, len(l))
	for i, share := range shares {
		weights[i] = reduced(share, total)
	}
	if slices.ContainsFunc(weights, isLarge) {
		return nil, api.ErrLarge
	}
	return weights, api.OK
}

// ValueAt returns the value of stations at a place.
func ValueAt(l []api.ChartStation, at api.ChartPlace) (api.Span, api.Errno) {
	if e := firstError(stationsError(l), placeError(at)); e != api.OK {
		return api.Span{}, e
	}
	value := valueAt(l, at)
	if isLargeSpan(value) {
		return api.Span{}, api.ErrLarge
	}
	return value, api.OK
}

// IsKnown returns whether a station is near a place.
func IsKnown(l []api.ChartStation, at api.ChartPlace, reach int) (bool, api.Errno) {
	if e := firstError(stationsError(l), placeError(at), reachError(reach)); e != api.OK {
		return false, e
	}
	return isKnown(l, at, reach), api.OK
}

// LeftOut returns for each station by how much the others' value at its place differs from its own.
func LeftOut(l []api.ChartStation) ([]api.Span, api.Errno) {
	if e := severalError(l); e != api.OK {
		return nil, e
	}
	list := differencesOf(l)
	if slices.ContainsFunc(list, isLargeSpan) {
		return nil, api.ErrLarge
	}
	return list, api.OK
}

// WorstOf returns the name of the station that the others contradict most.
func WorstOf(l []api.ChartStation) (string, api.Errno) {
	if e := severalError(l); e != api.OK {
		return "", e
	}
	worst, most := 0, api.Frac{Den: 1}
	for i, difference := range differencesOf(l) {
		if distance := distanceOf(difference); isLess(most, distance) {
			worst, most = i, distance
		}
	}
	return l[worst].Name, api.OK
}

// sharesAt returns whole numbers that are to one another as the weights of stations.
func sharesAt(l []api.ChartStation, at api.ChartPlace) []int {
	shares := make([]int, len(l))
	if i := youngestAt(l, at); i < len(l) {
		shares[i] = 1
		return shares
	}
	// With a square of at most 1800 for each of the other stations the sum of shares is below 6 * 10^14: times a value it fits into a word.
	for i, s := range l {
		shares[i] = api.MaxChartAge + 1 - s.Age
		for j, other := range l {
			if j != i {
				shares[i] *= squareBetween(other.At, at)
			}
		}
	}
	return shares
}

// youngestAt returns the index of the station that decides at a place, or the number of stations if none is there.
func youngestAt(l []api.ChartStation, at api.ChartPlace) int {
	youngest := len(l)
	for i, s := range l {
		if s.At == at && (youngest == len(l) || s.Age < l[youngest].Age) {
			youngest = i
		}
	}
	return youngest
}

// valueAt returns the value with fractions of any size.
func valueAt(l []api.ChartStation, at api.ChartPlace) api.Span {
	shares := sharesAt(l, at)
	var sum api.Range
	for i, s := range l {
		sum.Lo += shares[i] * s.Value.Lo
		sum.Hi += shares[i] * s.Value.Hi
	}
	total := sumOf(shares)
	return api.Span{Lo: reduced(sum.Lo, total), Hi: reduced(sum.Hi, total)}
}

func isKnown(l []api.ChartStation, at api.ChartPlace, reach int) bool {
	return slices.ContainsFunc(l, func(s api.ChartStation) bool {
		return squareBetween(s.At, at) <= reach
	})
}

// differencesOf returns the errors of left out stations with fractions of any size.
func differencesOf(l []api.ChartStation) []api.Span {
	list := make([]api.Span, len(l))
	for i, s := range l {
		others := slices.Delete(slices.Clone(l), i, i+1)
		value := valueAt(others, s.At)
		list[i] = api.Span{Lo: minus(value.Lo, s.Value.Hi), Hi: minus(value.Hi, s.Value.Lo)}
	}
	return list
}

// distanceOf returns the distance of a span from 0.
func distanceOf(s api.Span) api.Frac {
	if s.Lo.Num > 0 {
		return s.Lo
	}
	if s.Hi.Num < 0 {
		return api.Frac{Num: -s.Hi.Num, Den: s.Hi.Den}
	}
	return api.Frac{Den: 1}
}

// squareBetween returns the square of the distance of two places.
func squareBetween(a, b api.ChartPlace) int {
	x, y := a.X-b.X, a.Y-b.Y
	return x*x + y*y
}

func sumOf(list []int) int {
	sum := 0
	for _, n := range list {
		sum += n
	}
	return sum
}

func severalError(l []api.ChartStation) api.Errno {
	return firstError(stationsError(l), errorIf(len(l) == 1, api.ErrShape))
}

func reachError(reach int) api.Errno {
	return errorIf(outside(reach, 0, api.MaxChartReach), api.ErrRange)
}
