package forecast

import (
	"fmt"
	"slices"
	"testing"

	"skywave/api"
)

// P7.2

func TestQuantileOf(t *testing.T) {
	for share, quantile := range map[int]int{1: 900, 333: 900, 334: 800, 500: 800, 666: 800, 667: 600, 900: 600, 999: 600, 1000: 600} {
		n, e := QuantileOf(exampleRecords(), query(3, 12, 0, 9, 700), share)
		want(t, fmt.Sprint("QuantileOf ", share), results(n, e), results(quantile, api.OK))
	}
	for share, quantile := range map[int]int{1: 900, 500: 900, 501: 800, 1000: 800} {
		n, e := QuantileOf(exampleRecords(), query(3, 12, 0, 6, 0), share)
		want(t, fmt.Sprint("QuantileOf quiet days ", share), results(n, e), results(quantile, api.OK))
	}
	for _, share := range sharesOfInterest() {
		n, e := QuantileOf([]api.ForecastRecord{record(1, 1, 0, 0, 0, 0)}, query(1, 0, 0, 0, 7), share)
		want(t, "QuantileOf one record", results(n, e), results(0, api.OK))
		n, e = QuantileOf(lastRecords(), query(12, 23, 9, 9, 0), share)
		want(t, "QuantileOf the same records", results(n, e), results(3000, api.OK))
	}
	// Of 400 records at most 4 may be left out for 990, and 3 for 991.
	var l []api.ForecastRecord
	for i := range 400 {
		l = append(l, record(1, 1, 1, 1, 0, 1+i*17%400))
	}
	for share, quantile := range map[int]int{1: 400, 2: 400, 3: 399, 990: 5, 991: 4, 997: 2, 998: 1, 1000: 1} {
		n, e := QuantileOf(l, query(1, 1, 0, 9, 0), share)
		want(t, fmt.Sprint("QuantileOf 400 records ", share), results(n, e), results(quantile, api.OK))
	}
}

func TestQuantileByDefinition(t *testing.T) {
	for seed := range 200 {
		l, q := irregularRecords(seed), irregularQuery(seed)
		ranges := recordsThatCount(l, q)
		for _, share := range sharesOfInterest() {
			n, e := QuantileOf(l, q, share)
			if len(ranges) == 0 {
				refused(t, "QuantileOf", api.ErrNone, n, e)
				continue
			}
			want(t, fmt.Sprint("QuantileOf ", q, share), results(n, e), results(quantileByDefinition(ranges, share), api.OK))
		}
	}
}

func quantileByDefinition(ranges []api.Range, share int) int {
	for f := 3000; ; f-- {
		above := 0
		for _, r := range ranges {
			if r.Hi >= f {
				above++
			}
		}
		if isShare(above, len(ranges), share) {
			return f
		}
	}
}

func TestWindowsOf(t *testing.T) {
	for _, x := range []struct {
		share   int
		windows []api.Range
	}{
		{1, []api.Range{rangeOf(300, 900)}},
		{333, []api.Range{rangeOf(300, 900)}},
		{334, []api.Range{rangeOf(400, 800)}},
		{600, []api.Range{rangeOf(400, 800)}},
		{666, []api.Range{rangeOf(400, 800)}},
		{667, []api.Range{rangeOf(500, 600)}},
		{700, []api.Range{rangeOf(500, 600)}},
		{1000, []api.Range{rangeOf(500, 600)}},
	} {
		w, e := WindowsOf(exampleRecords(), query(3, 12, 0, 9, 3000), x.share)
		want(t, fmt.Sprint("WindowsOf ", x.share), results(w, e), results(x.windows, api.OK))
	}
}

func TestWindowsWithGaps(t *testing.T) {
	windowsOf := func(share int, usable ...api.Range) []any {
		var l []api.ForecastRecord
		for _, r := range usable {
			l = append(l, record(1, 1, 1, 1, r.Lo, r.Hi))
		}
		w, e := WindowsOf(l, query(1, 1, 1, 1, 0), share)
		return results(w, e)
	}
	list := func(ranges ...api.Range) []any { return results(ranges, api.OK) }
	want(t, "a gap", windowsOf(500, rangeOf(100, 200), rangeOf(202, 300)), list(rangeOf(100, 200), rangeOf(202, 300)))
	want(t, "neighbours", windowsOf(500, rangeOf(100, 200), rangeOf(201, 300)), list(rangeOf(100, 300)))
	want(t, "one in common", windowsOf(501, rangeOf(100, 200), rangeOf(200, 300)), list(rangeOf(200, 200)))
	want(t, "none", windowsOf(501, rangeOf(100, 200), rangeOf(201, 300)), list())
	want(t, "none of all", windowsOf(1000, rangeOf(0, 0), rangeOf(3000, 3000)), list())
	want(t, "both ends", windowsOf(500, rangeOf(0, 0), rangeOf(3000, 3000)), list(rangeOf(0, 0), rangeOf(3000, 3000)))
	want(t, "all", windowsOf(1000, rangeOf(0, 3000)), list(rangeOf(0, 3000)))
	want(t, "all in two parts", windowsOf(500, rangeOf(0, 1500), rangeOf(1501, 3000)), list(rangeOf(0, 3000)))
	want(t, "two times two", windowsOf(500, rangeOf(10, 20), rangeOf(40, 50), rangeOf(15, 45), rangeOf(1000, 1000)), list(rangeOf(15, 20), rangeOf(40, 45)))
	want(t, "three times", windowsOf(300, rangeOf(1, 1), rangeOf(3, 3), rangeOf(5, 6)), list(rangeOf(1, 1), rangeOf(3, 3), rangeOf(5, 6)))
}

func TestNothingCounts(t *testing.T) {
	for _, q := range []api.ForecastQuery{query(3, 0, 0, 9, 700), query(4, 12, 0, 9, 700), query(3, 12, 3, 6, 700)} {
		n, e := QuantileOf(exampleRecords(), q, 500)
		refused(t, "QuantileOf", api.ErrNone, n, e)
		w, e := WindowsOf(exampleRecords(), q, 500)
		refused(t, "WindowsOf", api.ErrNone, w, e)
		n, e = QuantileOf(nil, q, 1001)
		refused(t, "QuantileOf with a bad share", api.ErrRange, n, e)
		w, e = WindowsOf(nil, q, 0)
		refused(t, "WindowsOf with a bad share", api.ErrRange, w, e)
	}
}

// P7.9: a frequency is in a window exactly if its chance is at least the share.
func TestWindowsByDefinition(t *testing.T) {
	for seed := range 200 {
		l, q := irregularRecords(seed), irregularQuery(seed)
		ranges := recordsThatCount(l, q)
		shares := sharesOfInterest()
		for _, share := range []int{shares[seed%len(shares)], shares[(seed+7)%len(shares)], 500} {
			w, e := WindowsOf(l, q, share)
			if len(ranges) == 0 {
				refused(t, "WindowsOf", api.ErrNone, w, e)
				continue
			}
			want(t, fmt.Sprint("WindowsOf ", q, share), results(w, e), results(windowsByDefinition(ranges, share), api.OK))
		}
	}
}

func windowsByDefinition(ranges []api.Range, share int) []api.Range {
	isUsable := func(f int) bool {
		usable := 0
		for _, r := range ranges {
			if r.Lo <= f && f <= r.Hi {
				usable++
			}
		}
		return isShare(usable, len(ranges), share)
	}
	var windows []api.Range
	for f := 0; f <= 3000; f++ {
		if !isUsable(f) {
			continue
		}
		from := f
		for f < 3000 && isUsable(f+1) {
			f++
		}
		windows = append(windows, rangeOf(from, f))
	}
	return windows
}

func TestChancesInWindows(t *testing.T) {
	l, q := exampleRecords(), query(3, 12, 0, 9, 0)
	for _, share := range []int{1, 333, 334, 666, 667, 1000} {
		w, _ := WindowsOf(l, q, share)
		for f := range 3001 {
			q.Frequency = f
			chance, _ := ChanceOf(l, q)
			isIn := slices.ContainsFunc(w, func(r api.Range) bool { return r.Lo <= f && f <= r.Hi })
			want(t, fmt.Sprint(f, " is in a window of ", share), isIn, isShare(chance.Num, chance.Den, share))
		}
	}
}

func TestGreaterShares(t *testing.T) {
	for seed := range 200 {
		l, q := irregularRecords(seed), irregularQuery(seed)
		last, lastWindows := 3000, []api.Range{rangeOf(0, 3000)}
		for _, share := range sharesOfInterest() {
			n, e := QuantileOf(l, q, share)
			if e == api.OK && n > last {
				t.Errorf("QuantileOf %d: %d after %d", share, n, last)
			}
			w, e := WindowsOf(l, q, share)
			for _, inner := range w {
				if !slices.ContainsFunc(lastWindows, func(r api.Range) bool { return r.Lo <= inner.Lo && inner.Hi <= r.Hi }) {
					t.Errorf("WindowsOf %d: %v in %v", share, w, lastWindows)
				}
			}
			if e == api.OK {
				last, lastWindows = n, w
			}
		}
	}
}

// With the share 1000 a quantile is the minimum of all upper ends.
func TestQuantileOfAll(t *testing.T) {
	for seed := range 200 {
		l, q := irregularRecords(seed), irregularQuery(seed)
		least := 3001
		for _, r := range recordsThatCount(l, q) {
			least = min(least, r.Hi)
		}
		if n, e := QuantileOf(l, q, 1000); e == api.OK {
			want(t, "QuantileOf all", n, least)
		}
	}
}
