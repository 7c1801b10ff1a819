package forecast

import "skywave/api"

// maxApart is the maximum number of ranges that are apart, each of which begins at an hour of its own before the last one.
const maxApart = api.ForecastHours - 1

// CheckApart returns the number of ranges that are apart, or the error of ranges that are not, and the index of the range.
func CheckApart(t api.ForecastTable, share int, apart []api.Range) (int, api.Errno) {
	p, e := planOf(t, share)
	if e = firstError(e, errorIf(len(apart) > maxApart, api.ErrLarge)); e != api.OK {
		return 0, e
	}
	i, e := firstBad(apart, func(i int, hours api.Range) api.Errno {
		e := firstError(
			hourError(hours.Lo),
			hourError(hours.Hi),
			errorIf(hours.Lo >= hours.Hi || i > 0 && hours.Lo < apart[i-1].Hi, api.ErrOrder),
		)
		if e != api.OK {
			return e
		}
		return errorIf(p.canStay(hours), api.ErrClash)
	})
	if e != api.OK {
		return i, e
	}
	return len(apart), api.OK
}

// ApartOf returns as many ranges that are apart as there are changes at least: each one ends as soon as no column can stay.
func ApartOf(t api.ForecastTable, share int) ([]api.Range, api.Errno) {
	p, e := fullPlanOf(t, share)
	if e != api.OK {
		return nil, e
	}
	var apart []api.Range
	begin := 0
	for hour := range p.Hours {
		hours := api.Range{Lo: begin, Hi: hour}
		if !p.canStay(hours) {
			apart = append(apart, hours)
			begin = hour
		}
	}
	return apart, api.OK
}
