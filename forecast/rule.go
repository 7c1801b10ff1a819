package forecast

import "skywave/api"

// CheckRule returns the error of a rule.
func CheckRule(r api.ForecastRule) api.Errno {
	return firstError(
		activityError(r.Quiet),
		errorIf(outside(r.Lower, 0, api.ForecastPart) || outside(r.Raise, 0, api.ForecastPart), api.ErrRange),
	)
}

// MovedBy returns the range of usable frequencies that a rule moves.
func MovedBy(r api.ForecastRule, usable api.Range, activity int) (api.Range, api.Errno) {
	e := firstError(
		CheckRule(r),
		rangeError(usable, api.MaxForecastFrequency),
		activityError(activity),
	)
	if e != api.OK {
		return api.Range{}, e
	}
	n := max(0, activity-r.Quiet)
	moved := api.Range{
		Lo: dividedUp(usable.Lo*(api.ForecastPart+n*r.Raise), api.ForecastPart),
		Hi: usable.Hi * max(0, api.ForecastPart-n*r.Lower) / api.ForecastPart,
	}
	if moved.Lo > moved.Hi {
		return api.Range{}, api.ErrNone
	}
	return moved, api.OK
}
