package forecast

import (
	"slices"

	"skywave/api"
)

// never is more than any number of changes.
const never = api.ForecastHours

// ScheduleOf returns the lexicographically first schedule of those with the minimum number of changes.
func ScheduleOf(t api.ForecastTable, share int) ([]int, api.Errno) {
	p, e := fullPlanOf(t, share)
	if e != api.OK {
		return nil, e
	}
	left := p.changesLeft()
	schedule := make([]int, api.ForecastHours)
	for hour := range schedule {
		changes := slices.Clone(left[hour])
		for column := range changes {
			if hour > 0 && column != schedule[hour-1] {
				changes[column]++
			}
		}
		schedule[hour] = slices.Index(changes, slices.Min(changes))
	}
	return schedule, api.OK
}

// ChangesOf returns the number of changes of a schedule.
func ChangesOf(t api.ForecastTable, share int, schedule []int) (int, api.Errno) {
	p, e := planOf(t, share)
	if e != api.OK {
		return 0, e
	}
	if len(schedule) != api.ForecastHours {
		return 0, api.ErrShape
	}
	changes := 0
	_, e = firstBad(schedule, func(hour, column int) api.Errno {
		if outside(column, 0, len(p.Frequencies)-1) {
			return api.ErrMissing
		}
		if hour > 0 && column != schedule[hour-1] {
			changes++
		}
		return errorIf(!p.isUsable(hour, column), api.ErrRefused)
	})
	if e != api.OK {
		return 0, e
	}
	return changes, api.OK
}

// changesLeft returns, for each hour and column, the minimum number of changes after this hour if the schedule has this column at it, or never if the column is not usable. The last row is for the end of the day.
func (p plan) changesLeft() [api.ForecastHours + 1][]int {
	var left [api.ForecastHours + 1][]int
	left[api.ForecastHours] = make([]int, len(p.Frequencies))
	for hour := api.ForecastHours - 1; hour >= 0; hour-- {
		next := left[hour+1]
		left[hour] = slices.Repeat([]int{never}, len(p.Frequencies))
		for column := range p.columns(hour) {
			left[hour][column] = min(next[column], slices.Min(next)+1)
		}
	}
	return left
}
