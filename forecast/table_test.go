package forecast

import (
	"fmt"
	"testing"

	"skywave/api"
)

// P7.3

func TestCheckTable(t *testing.T) {
	for _, x := range goodTables() {
		i, e := CheckTable(x)
		want(t, "CheckTable", results(i, e), results(0, api.OK))
	}
	for _, x := range badTables() {
		i, e := CheckTable(x.t)
		want(t, fmt.Sprint("CheckTable of ", len(x.t.Frequencies), " columns"), results(i, e), results(x.hour, x.e))
	}
}

func TestBestAt(t *testing.T) {
	x := exampleTable()
	for hour, best := range map[int]int{12: 1, 13: 0} {
		n, e := BestAt(x, hour)
		want(t, "BestAt", results(n, e), results(best, api.OK))
	}
	for _, hour := range []int{0, 11, 14, 23} {
		n, e := BestAt(x, hour)
		refused(t, "BestAt", api.ErrNone, n, e)
	}
}

func TestBestOfCounts(t *testing.T) {
	for _, x := range []struct {
		counts []api.ForecastCount
		best   int
	}{
		{[]api.ForecastCount{count(0, 1)}, 0},
		{[]api.ForecastCount{count(0, 0), count(0, 1000)}, 1},
		{[]api.ForecastCount{count(0, 0), count(0, 1000), count(0, 1)}, 1},
		{[]api.ForecastCount{count(1, 2), count(0, 0), count(2, 4)}, 0},
		{[]api.ForecastCount{count(0, 5), count(0, 0), count(1, 1000)}, 2},
		{[]api.ForecastCount{count(998, 999), count(999, 1000), count(997, 998)}, 1},
		{[]api.ForecastCount{count(500, 1000), count(1, 2), count(2, 3), count(4, 6), count(0, 0)}, 2},
		{[]api.ForecastCount{count(1, 1), count(1000, 1000), count(1000, 1000)}, 0},
		{[]api.ForecastCount{count(1, 3), count(333, 1000), count(334, 1000)}, 2},
		{[]api.ForecastCount{count(3, 4), count(3, 5), count(1, 1), count(0, 0), count(4, 5)}, 2},
		{[]api.ForecastCount{count(0, 1), count(0, 1), count(0, 1), count(0, 1), count(0, 1), count(0, 1), count(0, 1), count(0, 1), count(0, 1), count(1, 1)}, 9},
	} {
		for _, hour := range []int{0, 23} {
			table := tableWith(len(x.counts), func(at, column int) api.ForecastCount {
				if at == hour {
					return x.counts[column]
				}
				return count(0, 0)
			})
			n, e := BestAt(table, hour)
			want(t, fmt.Sprint("BestAt of ", x.counts), results(n, e), results(x.best, api.OK))
			n, e = BestAt(table, 12)
			refused(t, "BestAt of another hour", api.ErrNone, n, e)
		}
	}
}

func TestBestByDefinition(t *testing.T) {
	for _, x := range goodTables() {
		for hour := range 24 {
			n, e := BestAt(x, hour)
			expected := -1
			for column := len(x.Frequencies) - 1; column >= 0; column-- {
				if isBest(x.Hours[hour], column) {
					expected = column
				}
			}
			if expected < 0 {
				refused(t, "BestAt", api.ErrNone, n, e)
				continue
			}
			want(t, fmt.Sprint("BestAt of ", x.Hours[hour]), results(n, e), results(expected, api.OK))
		}
	}
}

// isBest tells whether no other column has a greater chance.
func isBest(counts []api.ForecastCount, column int) bool {
	c := counts[column]
	if c.Total == 0 {
		return false
	}
	for _, other := range counts {
		if other.Total != 0 && ratio(other.Usable, other.Total).Cmp(ratio(c.Usable, c.Total)) > 0 {
			return false
		}
	}
	return true
}

func TestUsableAt(t *testing.T) {
	for _, x := range []struct {
		hour, share int
		columns     []int
	}{
		{12, 1, []int{0, 1}},
		{12, 333, []int{0, 1}},
		{12, 334, []int{1}},
		{12, 666, []int{1}},
		{12, 667, nil},
		{13, 1000, []int{0, 1}},
		{0, 1, nil},
		{23, 1000, nil},
	} {
		l, e := UsableAt(exampleTable(), x.hour, x.share)
		want(t, fmt.Sprint("UsableAt ", x.hour, x.share), results(l, e), results(x.columns, api.OK))
	}
	for _, x := range []struct {
		c     api.ForecastCount
		share int
		is    bool
	}{
		{count(1, 1000), 1, true},
		{count(1, 1000), 2, false},
		{count(0, 1000), 1, false},
		{count(0, 1), 1, false},
		{count(0, 0), 1, false},
		{count(0, 0), 1000, false},
		{count(999, 1000), 999, true},
		{count(999, 1000), 1000, false},
		{count(1000, 1000), 1000, true},
		{count(1, 1), 1000, true},
		{count(1, 999), 1, true},
		{count(1, 999), 2, false},
	} {
		l, e := UsableAt(tableWith(1, func(_, _ int) api.ForecastCount { return x.c }), 5, x.share)
		want(t, fmt.Sprint("UsableAt of ", x.c, x.share), results(len(l) == 1, e), results(x.is, api.OK))
	}
}

func TestUsableByDefinition(t *testing.T) {
	for _, x := range goodTables() {
		for hour := range 24 {
			for _, share := range sharesOfInterest() {
				var expected []int
				for column := range x.Frequencies {
					if isUsableIn(x, share, hour, column) {
						expected = append(expected, column)
					}
				}
				l, e := UsableAt(x, hour, share)
				want(t, fmt.Sprint("UsableAt of ", x.Hours[hour]), results(l, e), results(expected, api.OK))
			}
		}
	}
}

// isUsableIn tells whether a column is usable by the definition.
func isUsableIn(x api.ForecastTable, share, hour, column int) bool {
	c := x.Hours[hour][column]
	return c.Total != 0 && isShare(c.Usable, c.Total, share)
}
