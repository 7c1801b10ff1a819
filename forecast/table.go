package forecast

import (
	"slices"

	"skywave/api"
)

// CheckTable returns the error of a table, and the index of the hour.
func CheckTable(t api.ForecastTable) (int, api.Errno) {
	e := firstError(
		frequenciesError(t.Frequencies),
		errorIf(len(t.Hours) != api.ForecastHours, api.ErrShape),
	)
	if e != api.OK {
		return 0, e
	}
	return firstBad(t.Hours, func(_ int, counts []api.ForecastCount) api.Errno {
		_, countsError := firstBad(counts, func(_ int, c api.ForecastCount) api.Errno { return countError(c) })
		return firstError(errorIf(len(counts) != len(t.Frequencies), api.ErrShape), countsError)
	})
}

// BestAt returns the first column with the maximum chance at an hour.
func BestAt(t api.ForecastTable, hour int) (int, api.Errno) {
	if e := firstError(tableError(t), hourError(hour)); e != api.OK {
		return 0, e
	}
	best := -1
	for column, c := range t.Hours[hour] {
		if c.Total != 0 && (best < 0 || isMore(c, t.Hours[hour][best])) {
			best = column
		}
	}
	if best < 0 {
		return 0, api.ErrNone
	}
	return best, api.OK
}

// UsableAt returns the usable columns of an hour.
func UsableAt(t api.ForecastTable, hour, share int) ([]int, api.Errno) {
	if e := firstError(tableError(t), hourError(hour), shareError(share)); e != api.OK {
		return nil, e
	}
	return slices.Collect(plan{t, share}.columns(hour)), api.OK
}

// isMore tells whether the chance of a count is greater than that of another one.
func isMore(a, b api.ForecastCount) bool {
	return a.Usable*b.Total > b.Usable*a.Total
}

func tableError(t api.ForecastTable) api.Errno {
	_, e := CheckTable(t)
	return e
}

func countError(c api.ForecastCount) api.Errno {
	return firstError(
		errorIf(outside(c.Usable, 0, api.MaxForecastCount) || outside(c.Total, 0, api.MaxForecastCount), api.ErrRange),
		errorIf(c.Usable > c.Total, api.ErrClash),
	)
}
