package forecast

import (
	"iter"

	"skywave/api"
)

// plan is a valid table and a valid share.
type plan struct {
	api.ForecastTable
	share int
}

func planOf(t api.ForecastTable, share int) (plan, api.Errno) {
	if e := firstError(tableError(t), shareError(share)); e != api.OK {
		return plan{}, e
	}
	return plan{t, share}, api.OK
}

// fullPlanOf returns a plan with a usable column at each hour.
func fullPlanOf(t api.ForecastTable, share int) (plan, api.Errno) {
	p, e := planOf(t, share)
	if e != api.OK {
		return plan{}, e
	}
	for hour := range p.Hours {
		if !p.canStay(api.Range{Lo: hour, Hi: hour}) {
			return plan{}, api.ErrNone
		}
	}
	return p, api.OK
}

func (p plan) isUsable(hour, column int) bool {
	return reaches(p.Hours[hour][column], p.share)
}

// columns ranges over the usable columns of an hour.
func (p plan) columns(hour int) iter.Seq[int] {
	return func(yield func(int) bool) {
		for column := range p.Frequencies {
			if p.isUsable(hour, column) && !yield(column) {
				return
			}
		}
	}
}

// canStay tells whether a column is usable at all of some hours.
func (p plan) canStay(hours api.Range) bool {
	for column := range p.columns(hours.Lo) {
		if p.isUsableAll(hours, column) {
			return true
		}
	}
	return false
}

func (p plan) isUsableAll(hours api.Range, column int) bool {
	for hour := hours.Lo; hour <= hours.Hi; hour++ {
		if !p.isUsable(hour, column) {
			return false
		}
	}
	return true
}
