package forecast

import (
	"slices"

	"skywave/api"
)

// QuantileOf returns the quantile of a share.
func QuantileOf(l []api.ForecastRecord, q api.ForecastQuery, share int) (int, api.Errno) {
	ranges, e := countingRanges(l, q, share)
	if e != api.OK {
		return 0, e
	}
	ends := make([]int, len(ranges))
	for i, usable := range ranges {
		ends[i] = usable.Hi
	}
	slices.Sort(ends)
	needed := dividedUp(share*len(ends), api.ForecastPart)
	return ends[len(ends)-needed], api.OK
}

// WindowsOf returns the windows of a share.
func WindowsOf(l []api.ForecastRecord, q api.ForecastQuery, share int) ([]api.Range, api.Errno) {
	ranges, e := countingRanges(l, q, share)
	if e != api.OK {
		return nil, e
	}
	// By how many more ranges each frequency is usable in than the one below it.
	var more [api.MaxForecastFrequency + 2]int
	for _, usable := range ranges {
		more[usable.Lo]++
		more[usable.Hi+1]--
	}
	var windows []api.Range
	c := api.ForecastCount{Total: len(ranges)}
	isOpen := false
	for frequency := range api.MaxForecastFrequency + 1 {
		c.Usable += more[frequency]
		wasOpen := isOpen
		isOpen = reaches(c, share)
		switch {
		case isOpen && wasOpen:
			windows[len(windows)-1].Hi = frequency
		case isOpen:
			windows = append(windows, api.Range{Lo: frequency, Hi: frequency})
		}
	}
	return windows, api.OK
}

// countingRanges returns the usable frequencies of the records that count for a query, at least one.
func countingRanges(l []api.ForecastRecord, q api.ForecastQuery, share int) ([]api.Range, api.Errno) {
	if e := firstError(recordsError(l), queryError(q), shareError(share)); e != api.OK {
		return nil, e
	}
	ranges := slices.Collect(counting(l, q))
	return ranges, errorIf(len(ranges) == 0, api.ErrNone)
}

// reaches tells whether the chance of a count is at least a share.
func reaches(c api.ForecastCount, share int) bool {
	return c.Total != 0 && c.Usable*api.ForecastPart >= share*c.Total
}
