package forecast

import (
	"slices"

	"skywave/api"
)

// Blended returns a table with reports added to it.
func Blended(t api.ForecastTable, reports []api.ForecastReport, weight int) (api.ForecastTable, api.Errno) {
	e := firstError(tableError(t), reportsError(t, reports), weightError(weight))
	if e != api.OK {
		return api.ForecastTable{}, e
	}
	blended := copyOf(t)
	for _, x := range reports {
		c := &blended.Hours[x.Hour][x.Column]
		c.Total += x.Weight * weight
		if x.Heard {
			c.Usable += x.Weight * weight
		}
		if c.Total > api.MaxForecastCount {
			return api.ForecastTable{}, api.ErrLarge
		}
	}
	return blended, api.OK
}

// CalibrationOf returns the bins of reports.
func CalibrationOf(t api.ForecastTable, reports []api.ForecastReport) ([api.ForecastBins]api.ForecastBin, api.Errno) {
	var bins [api.ForecastBins]api.ForecastBin
	if e := knownError(t, reports); e != api.OK {
		return bins, e
	}
	for _, x := range reports {
		bin := &bins[binOf(countFor(t, x))]
		bin.Total += x.Weight
		if x.Heard {
			bin.Heard += x.Weight
		}
	}
	return bins, api.OK
}

// ScoreOf returns the score of reports.
func ScoreOf(t api.ForecastTable, reports []api.ForecastReport) (api.Frac, api.Errno) {
	e := firstError(knownError(t, reports), errorIf(len(reports) == 0, api.ErrNone))
	if e != api.OK {
		return api.Frac{}, e
	}
	sum, weights := 0, 0
	for _, x := range reports {
		sum += x.Weight * missOf(countFor(t, x), x.Heard)
		weights += x.Weight
	}
	return reduced(sum, weights), api.OK
}

func copyOf(t api.ForecastTable) api.ForecastTable {
	hours := make([][]api.ForecastCount, len(t.Hours))
	for hour, counts := range t.Hours {
		hours[hour] = slices.Clone(counts)
	}
	return api.ForecastTable{Frequencies: slices.Clone(t.Frequencies), Hours: hours}
}

func countFor(t api.ForecastTable, x api.ForecastReport) api.ForecastCount {
	return t.Hours[x.Hour][x.Column]
}

// binOf returns the bin of a count whose Total is not 0.
func binOf(c api.ForecastCount) int {
	return min(api.ForecastBins*c.Usable/c.Total, api.ForecastBins-1)
}

// missOf returns the error of a report with a count whose Total is not 0.
func missOf(c api.ForecastCount, heard bool) int {
	difference := c.Usable * api.ForecastPart / c.Total
	if heard {
		difference -= api.ForecastPart
	}
	return difference * difference
}

func reportsError(t api.ForecastTable, reports []api.ForecastReport) api.Errno {
	_, e := firstBad(reports, func(_ int, x api.ForecastReport) api.Errno {
		return firstError(
			hourError(x.Hour),
			errorIf(outside(x.Column, 0, len(t.Frequencies)-1), api.ErrMissing),
			weightError(x.Weight),
		)
	})
	return firstError(errorIf(len(reports) > api.MaxForecastReports, api.ErrLarge), e)
}

// knownError returns the error of reports for which there must be counts whose Total is not 0.
func knownError(t api.ForecastTable, reports []api.ForecastReport) api.Errno {
	if e := firstError(tableError(t), reportsError(t, reports)); e != api.OK {
		return e
	}
	isUnknown := func(x api.ForecastReport) bool { return countFor(t, x).Total == 0 }
	return errorIf(slices.ContainsFunc(reports, isUnknown), api.ErrGap)
}
