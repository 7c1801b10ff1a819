package forecast

import (
	"fmt"
	"slices"
	"testing"

	"skywave/api"
)

// P7.1

func TestCheckRecords(t *testing.T) {
	for _, l := range goodRecords() {
		i, e := CheckRecords(l)
		want(t, "CheckRecords", results(i, e), results(0, api.OK))
	}
	for _, x := range badRecords() {
		i, e := CheckRecords(x.l)
		want(t, "CheckRecords", results(i, e), results(x.index, x.e))
	}
}

func TestCheckRecordsAtLimits(t *testing.T) {
	for _, x := range []api.ForecastRecord{
		record(1, 1, 0, 0, 0, 0),
		record(3000, 12, 23, 9, 3000, 3000),
		record(1, 12, 0, 9, 0, 3000),
		record(3000, 1, 23, 0, 2999, 3000),
	} {
		i, e := CheckRecords([]api.ForecastRecord{x})
		want(t, "CheckRecords", results(i, e), results(0, api.OK))
	}
	i, e := CheckRecords(lastRecords())
	want(t, "CheckRecords of 400", results(len(lastRecords()), i, e), results(400, 0, api.OK))
}

func TestCountOf(t *testing.T) {
	for _, x := range []struct {
		q api.ForecastQuery
		c api.ForecastCount
	}{
		{query(3, 12, 0, 9, 700), count(2, 3)},
		{query(3, 12, 0, 4, 700), count(2, 2)},
		{query(3, 12, 0, 2, 700), count(2, 2)},
		{query(3, 12, 2, 2, 700), count(2, 2)},
		{query(3, 12, 2, 7, 700), count(2, 3)},
		{query(3, 12, 3, 9, 700), count(0, 1)},
		{query(3, 12, 7, 7, 500), count(1, 1)},
		{query(3, 12, 3, 6, 700), count(0, 0)},
		{query(3, 12, 8, 9, 700), count(0, 0)},
		{query(3, 12, 0, 1, 700), count(0, 0)},
		{query(3, 13, 0, 9, 700), count(1, 1)},
		{query(3, 13, 0, 9, 701), count(0, 1)},
		{query(3, 11, 0, 9, 700), count(0, 0)},
		{query(4, 12, 0, 9, 700), count(0, 0)},
		{query(2, 12, 0, 9, 700), count(0, 0)},
		{query(3, 12, 0, 9, 299), count(0, 3)},
		{query(3, 12, 0, 9, 300), count(1, 3)},
		{query(3, 12, 0, 9, 399), count(1, 3)},
		{query(3, 12, 0, 9, 500), count(3, 3)},
		{query(3, 12, 0, 9, 600), count(3, 3)},
		{query(3, 12, 0, 9, 601), count(2, 3)},
		{query(3, 12, 0, 9, 900), count(1, 3)},
		{query(3, 12, 0, 9, 901), count(0, 3)},
		{query(3, 12, 0, 9, 0), count(0, 3)},
		{query(3, 12, 0, 9, 3000), count(0, 3)},
	} {
		c, e := CountOf(exampleRecords(), x.q)
		want(t, fmt.Sprint("CountOf ", x.q), results(c, e), results(x.c, api.OK))
	}
}

func TestCountAtLimits(t *testing.T) {
	for _, x := range []struct {
		q api.ForecastQuery
		c api.ForecastCount
	}{
		{query(1, 0, 0, 0, 0), count(100, 100)},
		{query(1, 0, 0, 0, 1), count(0, 100)},
		{query(12, 23, 9, 9, 3000), count(100, 100)},
		{query(12, 23, 9, 9, 2999), count(0, 100)},
		{query(1, 0, 0, 9, 0), count(100, 100)},
	} {
		c, e := CountOf(lastRecords(), x.q)
		want(t, fmt.Sprint("CountOf ", x.q), results(c, e), results(x.c, api.OK))
	}
	same := slices.Repeat([]api.ForecastRecord{record(7, 7, 7, 7, 7, 7)}, 400)
	c, e := CountOf(same, query(7, 7, 7, 7, 7))
	want(t, "CountOf the same record", results(c, e), results(count(400, 400), api.OK))
}

func TestCountByDefinition(t *testing.T) {
	for seed := range 400 {
		l, q := irregularRecords(seed), irregularQuery(seed)
		c, e := CountOf(l, q)
		want(t, fmt.Sprint("CountOf ", q), results(c, e), results(countByDefinition(l, q), api.OK))
	}
}

func countByDefinition(l []api.ForecastRecord, q api.ForecastQuery) api.ForecastCount {
	total, usable := 0, 0
	for _, r := range recordsThatCount(l, q) {
		total++
		for f := r.Lo; f <= r.Hi; f++ {
			if f == q.Frequency {
				usable++
			}
		}
	}
	return count(usable, total)
}

// recordsThatCount returns the usable frequencies of the records that count.
func recordsThatCount(l []api.ForecastRecord, q api.ForecastQuery) []api.Range {
	var list []api.Range
	for _, x := range l {
		for activity := q.Activities.Lo; activity <= q.Activities.Hi; activity++ {
			if x.Month == q.Month && x.Hour == q.Hour && x.Activity == activity {
				list = append(list, x.Usable)
			}
		}
	}
	return list
}

func TestChanceOf(t *testing.T) {
	for _, x := range []struct {
		q      api.ForecastQuery
		chance api.Frac
	}{
		{query(3, 12, 0, 9, 700), part(2, 3)},
		{query(3, 12, 0, 4, 700), part(1, 1)},
		{query(3, 12, 0, 4, 850), part(1, 2)},
		{query(3, 12, 0, 9, 550), part(1, 1)},
		{query(3, 12, 0, 9, 1000), part(0, 1)},
		{query(3, 12, 0, 9, 300), part(1, 3)},
	} {
		f, e := ChanceOf(exampleRecords(), x.q)
		want(t, fmt.Sprint("ChanceOf ", x.q), results(f, e), results(x.chance, api.OK))
	}
	for _, q := range []api.ForecastQuery{query(3, 0, 0, 9, 700), query(4, 12, 0, 9, 700), query(3, 12, 3, 6, 700)} {
		f, e := ChanceOf(exampleRecords(), q)
		refused(t, "ChanceOf nothing", api.ErrNone, f, e)
	}
	f, e := ChanceOf(nil, query(3, 12, 0, 9, 700))
	refused(t, "ChanceOf no records", api.ErrNone, f, e)
}

func TestChanceByDefinition(t *testing.T) {
	for seed := range 400 {
		l, q := irregularRecords(seed), irregularQuery(seed)
		f, e := ChanceOf(l, q)
		c := countByDefinition(l, q)
		if c.Total == 0 {
			refused(t, "ChanceOf", api.ErrNone, f, e)
			continue
		}
		want(t, fmt.Sprint("ChanceOf ", q), results(f, e), results(fraction(ratio(c.Usable, c.Total)), api.OK))
	}
}

func TestTableOf(t *testing.T) {
	hours, e := TableOf(exampleRecords(), 3, []int{300, 700})
	want(t, "TableOf", results(hours, e), results(exampleTable().Hours, api.OK))

	hours, e = TableOf(exampleRecords(), 4, []int{300})
	want(t, "TableOf of another month", results(hours, e), results(tableWith(1, func(_, _ int) api.ForecastCount { return count(0, 0) }).Hours, api.OK))

	hours, e = TableOf(nil, 12, []int{1, 3000})
	want(t, "TableOf no records", results(hours, e), results(tableWith(2, func(_, _ int) api.ForecastCount { return count(0, 0) }).Hours, api.OK))
}

func TestTableByDefinition(t *testing.T) {
	next := numbers(77)
	for _, l := range goodRecords() {
		for _, month := range []int{1, 3, 4, 12} {
			frequencies := []int{1 + next(8), 10 + next(50), 100, 101, 1000, 1499, 1500, 1501, 2000 + next(900), 3000}[:1+next(10)]
			hours, e := TableOf(l, month, frequencies)
			expected := tableWith(len(frequencies), func(hour, column int) api.ForecastCount {
				return countByDefinition(l, query(month, hour, 0, 9, frequencies[column]))
			})
			want(t, "TableOf", results(hours, e), results(expected.Hours, api.OK))
			i, e := CheckTable(api.ForecastTable{Frequencies: frequencies, Hours: hours})
			want(t, "CheckTable of TableOf", results(i, e), results(0, api.OK))
		}
	}
}

// P7.8

func TestCountsAddUp(t *testing.T) {
	for seed := range 400 {
		l, q := irregularRecords(seed), irregularQuery(seed)
		all, _ := CountOf(l, q)
		for cut := range 5 {
			at := cut * len(l) / 4
			a, _ := CountOf(l[:at], q)
			b, _ := CountOf(l[at:], q)
			want(t, "counts over some records and the others", count(a.Usable+b.Usable, a.Total+b.Total), all)
		}
		for lo := q.Activities.Lo; lo < q.Activities.Hi; lo++ {
			lower, upper := q, q
			lower.Activities.Hi, upper.Activities.Lo = lo, lo+1
			a, _ := CountOf(l, lower)
			b, _ := CountOf(l, upper)
			want(t, "counts over activities that follow one another", count(a.Usable+b.Usable, a.Total+b.Total), all)
		}
	}
}

func TestRecordsInAnyOrder(t *testing.T) {
	for seed := range 200 {
		l, q := irregularRecords(seed), irregularQuery(seed)
		show := func() []any {
			c, ce := CountOf(l, q)
			f, fe := ChanceOf(l, q)
			hours, he := TableOf(l, q.Month, []int{5, 40, 1000})
			n, ne := QuantileOf(l, q, 600)
			w, we := WindowsOf(l, q, 400)
			return results(c, ce, f, fe, hours, he, n, ne, w, we)
		}
		before := show()
		slices.Reverse(l)
		want(t, "records in the other order", show(), before)
		for i := range l {
			j := (i * 7) % len(l)
			l[i], l[j] = l[j], l[i]
		}
		want(t, "records in any order", show(), before)
	}
}
