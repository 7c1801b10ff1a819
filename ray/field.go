package ray

import (
	"slices"

	"skywave/api"
)

// CheckField returns the error of a field.
func CheckField(f api.RayField) api.Errno {
	isComponent := func(w int) bool { return !outside(w, -api.RayAlong, api.RayAlong) }
	return firstError(
		errorIf(outside(f.Gyro, 0, api.MaxRayGyro), api.ErrRange),
		errorIf(!isComponent(f.Along.Lo) || !isComponent(f.Along.Hi), api.ErrRange),
		errorIf(f.Along.Lo > f.Along.Hi, api.ErrOrder),
	)
}

// IndexSpans returns for each slab the span of its index square with a field.
func IndexSpans(s api.RaySky, frequency int, f api.RayField) ([]api.Span, api.Errno) {
	e := firstError(
		skyError(s),
		frequencyError(frequency),
		CheckField(f),
		gyroError(frequency, f),
	)
	if e != api.OK {
		return nil, e
	}
	spans := make([]api.Span, len(s.Slabs))
	for i, slab := range s.Slabs {
		// The index square grows if the component becomes less.
		spans[i] = api.Span{
			Lo: indexWith(slab.Square, frequency, f.Along.Hi*f.Gyro),
			Hi: indexWith(slab.Square, frequency, f.Along.Lo*f.Gyro),
		}
	}
	return spans, api.OK
}

// ReflectsWith returns whether a shot is reflected with a field.
func ReflectsWith(s api.RaySky, x api.RayField, r api.RayShot) (int, api.Errno) {
	e := firstError(
		skyError(s),
		CheckField(x),
		shotError(r),
		gyroError(r.Frequency, x),
	)
	if e != api.OK {
		return 0, e
	}
	reflectsAt := func(component int) bool {
		return slices.ContainsFunc(s.Slabs, func(slab api.RaySlab) bool {
			return isAtMost(indexWith(slab.Square, r.Frequency, component*x.Gyro), r.Launch)
		})
	}
	lo, hi := reflectsAt(x.Along.Lo), reflectsAt(x.Along.Hi)
	switch {
	case lo && hi:
		return api.AnswerYes, api.OK
	case !lo && !hi:
		return api.AnswerNo, api.OK
	}
	return api.AnswerMaybe, api.OK
}

// gyroError returns the error of a frequency that is too low for a field.
func gyroError(frequency int, f api.RayField) api.Errno {
	return errorIf(frequency <= f.Gyro, api.ErrBreak)
}

// indexWith returns the index square of a slab by its square, where pull is the component of a field times its gyro frequency.
func indexWith(square, frequency, pull int) api.Frac {
	all := frequency * (api.RayAlong*frequency - pull)
	return reduced(all-api.RayAlong*square, all)
}
