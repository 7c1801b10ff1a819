package chart

import "skywave/api"

// LitAt returns the answer whether it is light at a place.
func LitAt(sun, place api.ChartVector, twilight int) (int, api.Errno) {
	e := firstError(
		vectorError(sun),
		vectorError(place),
		errorIf(outside(twilight, 0, api.MaxChartTwilight), api.ErrRange),
	)
	if e != api.OK {
		return 0, e
	}
	product := sun.X*place.X + sun.Y*place.Y + sun.Z*place.Z
	switch {
	case product > twilight:
		return api.AnswerYes, api.OK
	case product < -twilight:
		return api.AnswerNo, api.OK
	}
	return api.AnswerMaybe, api.OK
}

// SunAt returns the sun at a quarter of the day.
func SunAt(x api.ChartDay, quarter int) (api.ChartVector, api.Errno) {
	e := firstError(
		vectorError(x.Noon),
		errorIf(outside(quarter, 0, api.MaxTick), api.ErrRange),
	)
	if e != api.OK {
		return api.ChartVector{}, e
	}
	sun := x.Noon
	for range quarter % 4 {
		sun.X, sun.Y = sun.Y, -sun.X
	}
	return sun, api.OK
}

func vectorError(v api.ChartVector) api.Errno {
	return firstError(
		errorIf(isLargePart(v.X) || isLargePart(v.Y) || isLargePart(v.Z), api.ErrRange),
		errorIf(v == api.ChartVector{}, api.ErrZero),
	)
}

func isLargePart(n int) bool {
	return outside(n, -api.MaxChartVector, api.MaxChartVector)
}
