package forecast

import (
	"fmt"
	"math/big"
	"slices"
	"testing"

	"skywave/api"
)

// P7.6

func TestBlended(t *testing.T) {
	x, e := Blended(exampleTable(), []api.ForecastReport{report(12, 0, true, 2)}, 3)
	expected := exampleTable()
	expected.Hours[12][0] = count(7, 9)
	want(t, "Blended", results(x, e), results(expected, api.OK))

	x, e = Blended(exampleTable(), []api.ForecastReport{report(12, 0, false, 2), report(23, 1, true, 10), report(0, 1, false, 1), report(12, 0, true, 1)}, 10)
	expected = exampleTable()
	expected.Hours[12][0] = count(11, 33)
	expected.Hours[23][1] = count(100, 100)
	expected.Hours[0][1] = count(0, 10)
	want(t, "Blended", results(x, e), results(expected, api.OK))

	x, e = Blended(exampleTable(), nil, 1)
	want(t, "Blended with nothing", results(x, e), results(exampleTable(), api.OK))
}

func TestBlendedLarge(t *testing.T) {
	full := func(usable, total int) api.ForecastTable {
		return tableWith(2, func(hour, column int) api.ForecastCount {
			if hour == 7 && column == 1 {
				return count(usable, total)
			}
			return count(0, 0)
		})
	}
	for _, heard := range []bool{true, false} {
		x, e := Blended(full(0, 900), []api.ForecastReport{report(7, 1, heard, 10)}, 10)
		expected := full(0, 1000)
		if heard {
			expected = full(100, 1000)
		}
		want(t, "Blended", results(x, e), results(expected, api.OK))
		x, e = Blended(full(0, 901), []api.ForecastReport{report(7, 1, heard, 10)}, 10)
		refused(t, "Blended", api.ErrLarge, x, e)
		x, e = Blended(full(1000, 1000), []api.ForecastReport{report(7, 0, heard, 10), report(7, 1, heard, 1)}, 1)
		refused(t, "Blended", api.ErrLarge, x, e)
		x, e = Blended(full(1000, 1000), []api.ForecastReport{report(7, 0, heard, 10), report(6, 1, heard, 1)}, 1)
		want(t, "Blended elsewhere", results(x.Hours[7][1], e), results(count(1000, 1000), api.OK))
	}
	ten := slices.Repeat([]api.ForecastReport{report(7, 1, true, 10)}, 10)
	x, e := Blended(full(0, 0), ten, 10)
	want(t, "Blended ten times", results(x, e), results(full(1000, 1000), api.OK))
	x, e = Blended(full(0, 0), append(ten, report(7, 1, false, 1)), 10)
	refused(t, "Blended eleven times", api.ErrLarge, x, e)
	x, e = Blended(full(0, 0), slices.Repeat(ten, 10), 10)
	refused(t, "Blended a hundred times", api.ErrLarge, x, e)
}

func TestBlendedByDefinition(t *testing.T) {
	large := 0
	for i, x := range goodTables() {
		reports := irregularReports(i, x)
		for _, weight := range []int{1, 2, 7, 10} {
			expected := tableWith(len(x.Frequencies), func(hour, column int) api.ForecastCount {
				c := x.Hours[hour][column]
				return count(c.Usable+weight*weightOf(reports, hour, column, true), c.Total+weight*(weightOf(reports, hour, column, true)+weightOf(reports, hour, column, false)))
			})
			expected.Frequencies = x.Frequencies
			isLarge := slices.ContainsFunc(expected.Hours, func(row []api.ForecastCount) bool {
				return slices.ContainsFunc(row, func(c api.ForecastCount) bool { return c.Total > 1000 })
			})
			blended, e := Blended(x, reports, weight)
			if isLarge {
				large++
				refused(t, "Blended", api.ErrLarge, blended, e)
				continue
			}
			want(t, "Blended", results(blended, e), results(expected, api.OK))
			_, e = CheckTable(blended)
			want(t, "CheckTable of Blended", e, api.OK)
		}
	}
	if large < 5 {
		t.Errorf("%d tables were too large", large)
	}
}

// weightOf returns the sum of the weights of the reports for a count that were heard, or that were not.
func weightOf(reports []api.ForecastReport, hour, column int, heard bool) int {
	sum := 0
	for _, x := range reports {
		if x.Hour == hour && x.Column == column && x.Heard == heard {
			sum += x.Weight
		}
	}
	return sum
}

func TestCalibrationOf(t *testing.T) {
	bins, e := CalibrationOf(exampleTable(), []api.ForecastReport{report(12, 1, true, 2)})
	want(t, "CalibrationOf", results(bins, e), results([5]api.ForecastBin{3: {Heard: 2, Total: 2}}, api.OK))
	bins, e = CalibrationOf(exampleTable(), []api.ForecastReport{report(12, 1, false, 3), report(12, 0, true, 1), report(13, 0, true, 10), report(13, 1, false, 4), report(12, 1, true, 2)})
	want(t, "CalibrationOf", results(bins, e), results([5]api.ForecastBin{1: {Heard: 1, Total: 1}, 3: {Heard: 2, Total: 5}, 4: {Heard: 10, Total: 14}}, api.OK))
	bins, e = CalibrationOf(exampleTable(), nil)
	want(t, "CalibrationOf nothing", results(bins, e), results([5]api.ForecastBin{}, api.OK))
}

func TestBins(t *testing.T) {
	for _, x := range []struct {
		c   api.ForecastCount
		bin int
	}{
		{count(0, 1), 0},
		{count(199, 1000), 0},
		{count(1, 5), 1},
		{count(200, 1000), 1},
		{count(399, 1000), 1},
		{count(2, 5), 2},
		{count(1, 2), 2},
		{count(599, 1000), 2},
		{count(3, 5), 3},
		{count(2, 3), 3},
		{count(799, 1000), 3},
		{count(4, 5), 4},
		{count(999, 1000), 4},
		{count(1, 1), 4},
		{count(1000, 1000), 4},
	} {
		table := tableWith(1, func(_, _ int) api.ForecastCount { return x.c })
		for _, heard := range []bool{true, false} {
			bins, e := CalibrationOf(table, []api.ForecastReport{report(5, 0, heard, 7)})
			expected := [5]api.ForecastBin{}
			expected[x.bin].Total = 7
			if heard {
				expected[x.bin].Heard = 7
			}
			want(t, fmt.Sprint("CalibrationOf ", x.c), results(bins, e), results(expected, api.OK))
		}
	}
}

func TestScoreOf(t *testing.T) {
	for _, x := range []struct {
		reports []api.ForecastReport
		score   api.Frac
	}{
		{[]api.ForecastReport{report(12, 1, true, 2)}, part(111556, 1)},
		{[]api.ForecastReport{report(12, 1, false, 2)}, part(443556, 1)},
		{[]api.ForecastReport{report(12, 0, true, 1)}, part(444889, 1)},
		{[]api.ForecastReport{report(12, 0, false, 10)}, part(110889, 1)},
		{[]api.ForecastReport{report(13, 0, true, 10)}, part(0, 1)},
		{[]api.ForecastReport{report(13, 1, false, 10)}, part(1000000, 1)},
		{[]api.ForecastReport{report(13, 1, false, 1), report(13, 1, true, 2)}, part(1000000, 3)},
		{[]api.ForecastReport{report(13, 1, false, 2), report(13, 1, true, 2)}, part(500000, 1)},
		{[]api.ForecastReport{report(12, 1, true, 2), report(12, 0, false, 1)}, part(334001, 3)},
		{slices.Repeat([]api.ForecastReport{report(13, 1, false, 10)}, 100), part(1000000, 1)},
		{append(slices.Repeat([]api.ForecastReport{report(13, 1, false, 10)}, 99), report(13, 1, true, 9)), part(110000000, 111)},
	} {
		f, e := ScoreOf(exampleTable(), x.reports)
		want(t, fmt.Sprint("ScoreOf ", x.reports), results(f, e), results(x.score, api.OK))
	}
	f, e := ScoreOf(exampleTable(), nil)
	refused(t, "ScoreOf nothing", api.ErrNone, f, e)
	f, e = ScoreOf(api.ForecastTable{}, nil)
	refused(t, "ScoreOf no table", api.ErrShape, f, e)
}

// A report for a count of 0 of 0 can be blended, but not scored.
func TestReportsOfNothing(t *testing.T) {
	for _, reports := range [][]api.ForecastReport{
		{report(0, 0, true, 2)},
		{report(12, 0, true, 2), report(23, 1, false, 1)},
		{report(11, 0, true, 2), report(13, 1, false, 1)},
	} {
		bins, e := CalibrationOf(exampleTable(), reports)
		refused(t, "CalibrationOf", api.ErrGap, bins, e)
		f, e := ScoreOf(exampleTable(), reports)
		refused(t, "ScoreOf", api.ErrGap, f, e)
		x, e := Blended(exampleTable(), reports, 1)
		want(t, "Blended", e, api.OK)
		_, e = ScoreOf(x, reports)
		want(t, "ScoreOf what was blended", e, api.OK)
	}
	// The errors of all reports come before that there is nothing for one.
	reports := []api.ForecastReport{report(0, 0, true, 2), report(0, 2, true, 2)}
	bins, e := CalibrationOf(exampleTable(), reports)
	refused(t, "CalibrationOf", api.ErrMissing, bins, e)
	f, e := ScoreOf(exampleTable(), reports)
	refused(t, "ScoreOf", api.ErrMissing, f, e)
}

func TestScoresByDefinition(t *testing.T) {
	for i, x := range goodTables() {
		reports := irregularReports(i, x)
		known := knownReports(x, reports)
		if len(known) < len(reports) {
			bins, e := CalibrationOf(x, reports)
			refused(t, "CalibrationOf", api.ErrGap, bins, e)
			f, e := ScoreOf(x, reports)
			refused(t, "ScoreOf", api.ErrGap, f, e)
		}
		bins, e := CalibrationOf(x, known)
		want(t, "CalibrationOf", results(bins, e), results(binsByDefinition(x, known), api.OK))
		f, e := ScoreOf(x, known)
		if len(known) == 0 {
			refused(t, "ScoreOf", api.ErrNone, f, e)
			continue
		}
		want(t, "ScoreOf", results(f, e), results(scoreByDefinition(x, known), api.OK))
	}
}

func binsByDefinition(x api.ForecastTable, reports []api.ForecastReport) [5]api.ForecastBin {
	var bins [5]api.ForecastBin
	for _, r := range reports {
		c := x.Hours[r.Hour][r.Column]
		bin := 4
		for bin > 0 && !isShare(c.Usable, c.Total, 200*bin) {
			bin--
		}
		bins[bin].Total += r.Weight
		if r.Heard {
			bins[bin].Heard += r.Weight
		}
	}
	return bins
}

func scoreByDefinition(x api.ForecastTable, reports []api.ForecastReport) api.Frac {
	sum, weights := new(big.Rat), 0
	for _, r := range reports {
		c := x.Hours[r.Hour][r.Column]
		share := 1000
		for !isShare(c.Usable, c.Total, share) {
			share--
		}
		for range r.Weight {
			if r.Heard {
				sum.Add(sum, ratio((1000-share)*(1000-share), 1))
			} else {
				sum.Add(sum, ratio(share*share, 1))
			}
			weights++
		}
	}
	return fraction(sum.Quo(sum, ratio(weights, 1)))
}

// P7.12

func TestReportsInAnyOrder(t *testing.T) {
	for i, x := range goodTables() {
		reports := irregularReports(i, x)
		known := knownReports(x, reports)
		show := func() []any {
			blended, be := Blended(x, reports, 3)
			bins, ce := CalibrationOf(x, known)
			f, fe := ScoreOf(x, known)
			return results(blended, be, bins, ce, f, fe)
		}
		before := show()
		slices.Reverse(reports)
		slices.Reverse(known)
		want(t, "reports in the other order", show(), before)
	}
}

func TestAllWeights(t *testing.T) {
	for i, x := range goodTables() {
		known := knownReports(x, irregularReports(i, x))
		bins, _ := CalibrationOf(x, known)
		heard, total := 0, 0
		for _, bin := range bins {
			heard += bin.Heard
			total += bin.Total
		}
		for _, r := range known {
			total -= r.Weight
			if r.Heard {
				heard -= r.Weight
			}
		}
		want(t, "weights beside those of the bins", results(heard, total), results(0, 0))
		f, _ := ScoreOf(x, known)
		if f.Num < 0 || f.Num > 1000000*f.Den {
			t.Errorf("ScoreOf: %v", f)
		}
	}
}

func TestBlendedInTwoParts(t *testing.T) {
	for i, x := range goodTables() {
		reports := irregularReports(i, x)
		whole, e := Blended(x, reports, 2)
		for cut := range 4 {
			at := cut * len(reports) / 3
			half, other := Blended(x, reports[:at], 2)
			if other == api.OK {
				half, other = Blended(half, reports[at:], 2)
			}
			want(t, "Blended in two parts", results(half, other), results(whole, e))
		}
	}
}
