package forecast

import (
	"fmt"
	"math"
	"math/big"
	"reflect"
	"slices"
	"strings"
	"testing"

	"skywave/api"
)

// want compares results with those that are expected; nil and empty slices are equal.
func want(t *testing.T, what string, got, expected any) {
	t.Helper()
	if fmt.Sprintf("%v", got) != fmt.Sprintf("%v", expected) {
		t.Errorf("%s: %v, want %v", what, got, expected)
	}
}

// results lists several results of one call.
func results(list ...any) []any { return list }

// refused checks that a call returned an error, and zero values beside it.
func refused(t *testing.T, what string, expected api.Errno, got ...any) {
	t.Helper()
	last := len(got) - 1
	if got[last] != expected {
		t.Errorf("%s: error %v, want %v", what, got[last], expected)
	}
	for _, x := range got[:last] {
		v := reflect.ValueOf(x)
		if !v.IsZero() && !(v.Kind() == reflect.Slice && v.Len() == 0) {
			t.Errorf("%s: %v beside the error %v", what, x, expected)
		}
	}
}

// numbers returns a sequence of numbers from 0 to size - 1, which looks irregular and is always the same.
func numbers(seed int) func(size int) int {
	state := uint32(seed)*2654435761 + 12345
	return func(size int) int {
		state = state*1664525 + 1013904223
		return int(state>>8) % size
	}
}

// outsideOf returns numbers that are not from least to most, among them some at which arithmetic of words overflows.
func outsideOf(least, most int) []int {
	return []int{least - 1, most + 1, math.MinInt, math.MinInt + 1, math.MaxInt - 1, math.MaxInt, 1 << 43, 1<<43 + 5, -1 << 43}
}

// spoil overwrites a list as far as its memory reaches.
func spoil[T any](list []T, item T) {
	list = list[:cap(list)]
	for i := range list {
		list[i] = item
	}
}

func rangeOf(lo, hi int) api.Range { return api.Range{Lo: lo, Hi: hi} }

func part(num, den int) api.Frac { return api.Frac{Num: num, Den: den} }

// fraction returns a value as a fraction in lowest terms.
func fraction(value *big.Rat) api.Frac {
	return part(int(value.Num().Int64()), int(value.Denom().Int64()))
}

func ratio(num, den int) *big.Rat { return big.NewRat(int64(num), int64(den)) }

// isShare tells whether a part of a number is at least a share.
func isShare(n, of, share int) bool {
	return ratio(n, of).Cmp(ratio(share, 1000)) >= 0
}

// start returns the start of a string that may be long.
func start(s string) string { return s[:min(len(s), 60)] }

// sharesOfInterest are shares, among them those near fractions of small numbers.
func sharesOfInterest() []int {
	return []int{1, 2, 99, 100, 101, 199, 200, 201, 249, 250, 251, 333, 334, 500, 501, 600, 666, 667, 750, 751, 800, 801, 999, 1000}
}

func record(year, month, hour, activity, lo, hi int) api.ForecastRecord {
	return api.ForecastRecord{Year: year, Month: month, Hour: hour, Activity: activity, Usable: rangeOf(lo, hi)}
}

// exampleRecords are those of the chapter's examples.
func exampleRecords() []api.ForecastRecord {
	return []api.ForecastRecord{
		record(2001, 3, 12, 2, 300, 900),
		record(2002, 3, 12, 2, 400, 800),
		record(2003, 3, 12, 7, 500, 600),
		record(2001, 3, 13, 2, 300, 700),
	}
}

// lastRecords are as many records as there may be, with the ends of all numbers.
func lastRecords() []api.ForecastRecord {
	var l []api.ForecastRecord
	for i := range 100 {
		l = append(l,
			record(1, 1, 0, 0, 0, 0),
			record(3000, 12, 23, 9, 3000, 3000),
			record(3000-i, 1+i%12, 23-i%24, i%10, 0, 3000),
			record(1+i, 12, 0, 9, 1499, 1500),
		)
	}
	return l
}

// irregularRecords returns valid records, many of which count for the same queries.
func irregularRecords(seed int) []api.ForecastRecord {
	next := numbers(seed)
	size := []int{7, 40, 40, 400}[seed%4]
	most := []int{8, 60, 3001}[seed%3]
	var l []api.ForecastRecord
	for range next(size + 1) {
		lo := next(most)
		hi := lo + next(most-lo)
		l = append(l, record(1+next(3000), 3+next(2), 11+next(3), next(10), lo, hi))
	}
	return l
}

// goodRecords are valid records.
func goodRecords() [][]api.ForecastRecord {
	list := [][]api.ForecastRecord{nil, {}, exampleRecords(), exampleRecords()[:1], lastRecords()}
	for seed := range 120 {
		list = append(list, irregularRecords(seed))
	}
	return list
}

// refusedRecords are records, and the index and the error with which they are refused.
type refusedRecords struct {
	l     []api.ForecastRecord
	index int
	e     api.Errno
}

// badRecords are records that are refused.
func badRecords() []refusedRecords {
	var list []refusedRecords
	add := func(index int, e api.Errno, l ...api.ForecastRecord) {
		list = append(list, refusedRecords{l, index, e})
	}
	good := record(2000, 3, 12, 2, 300, 900)
	add(0, api.ErrLarge, append(lastRecords(), good)...)
	add(0, api.ErrLarge, make([]api.ForecastRecord, 401)...)
	add(0, api.ErrLarge, make([]api.ForecastRecord, 60000)...)
	for i := range 3 {
		spoiled := func(e api.Errno, change func(x *api.ForecastRecord)) {
			l := []api.ForecastRecord{good, good, good, good}
			change(&l[i])
			add(i, e, l...)
			// The errors of the next record come later.
			l = slices.Clone(l)
			l[i+1] = record(2000, 3, 12, 2, 900, 300)
			add(i, e, l...)
			l = slices.Clone(l)
			l[i+1] = record(0, 0, 0, 0, 0, 0)
			add(i, e, l...)
		}
		for _, x := range []struct {
			least, most int
			place       func(x *api.ForecastRecord) *int
		}{
			{1, 3000, func(x *api.ForecastRecord) *int { return &x.Year }},
			{1, 12, func(x *api.ForecastRecord) *int { return &x.Month }},
			{0, 23, func(x *api.ForecastRecord) *int { return &x.Hour }},
			{0, 9, func(x *api.ForecastRecord) *int { return &x.Activity }},
			{0, 3000, func(x *api.ForecastRecord) *int { return &x.Usable.Lo }},
			{0, 3000, func(x *api.ForecastRecord) *int { return &x.Usable.Hi }},
		} {
			for _, n := range outsideOf(x.least, x.most) {
				spoiled(api.ErrRange, func(r *api.ForecastRecord) { *x.place(r) = n })
				spoiled(api.ErrRange, func(r *api.ForecastRecord) { r.Usable = rangeOf(5, 4); *x.place(r) = n })
				spoiled(api.ErrRange, func(r *api.ForecastRecord) { *r = record(0, 0, 0, 0, 0, 0); *x.place(r) = n })
			}
		}
		spoiled(api.ErrOrder, func(x *api.ForecastRecord) { x.Usable = rangeOf(1, 0) })
		spoiled(api.ErrOrder, func(x *api.ForecastRecord) { x.Usable = rangeOf(3000, 0) })
		spoiled(api.ErrOrder, func(x *api.ForecastRecord) { x.Usable = rangeOf(3000, 2999) })
	}
	add(399, api.ErrOrder, append(lastRecords()[:399], record(1, 1, 1, 1, 8, 7))...)
	return list
}

func query(month, hour, lo, hi, frequency int) api.ForecastQuery {
	return api.ForecastQuery{Month: month, Hour: hour, Activities: rangeOf(lo, hi), Frequency: frequency}
}

// irregularQuery returns a valid query for irregular records.
func irregularQuery(seed int) api.ForecastQuery {
	next := numbers(seed + 400)
	lo := next(10)
	if seed%2 == 0 {
		lo = 0
	}
	most := []int{8, 60, 3001}[seed%3]
	return query(3+next(2), 11+next(3), lo, lo+next(10-lo), next(most))
}

// refusedQuery is a query, and the error with which it is refused.
type refusedQuery struct {
	q api.ForecastQuery
	e api.Errno
}

func badQueries() []refusedQuery {
	var list []refusedQuery
	add := func(e api.Errno, q ...api.ForecastQuery) {
		for _, q := range q {
			list = append(list, refusedQuery{q, e})
		}
	}
	for _, n := range outsideOf(1, 12) {
		add(api.ErrRange, query(n, 12, 0, 9, 700), query(n, 12, 5, 4, 700))
	}
	for _, n := range outsideOf(0, 23) {
		add(api.ErrRange, query(3, n, 0, 9, 700), query(3, n, 9, 0, 700))
	}
	for _, n := range outsideOf(0, 9) {
		add(api.ErrRange, query(3, 12, n, 9, 700), query(3, 12, 0, n, 700), query(3, 12, n, n, 700))
	}
	for _, n := range outsideOf(0, 3000) {
		add(api.ErrRange, query(3, 12, 0, 9, n), query(3, 12, 9, 8, n), query(0, 24, 10, -1, n))
	}
	add(api.ErrOrder, query(3, 12, 1, 0, 700), query(3, 12, 9, 8, 700), query(3, 12, 9, 0, 0))
	return list
}

// refusedFrequencies are frequencies, and the error with which they are refused.
type refusedFrequencies struct {
	frequencies []int
	e           api.Errno
}

func badFrequencies() []refusedFrequencies {
	var list []refusedFrequencies
	add := func(e api.Errno, frequencies ...int) {
		list = append(list, refusedFrequencies{frequencies, e})
	}
	add(api.ErrShape)
	add(api.ErrShape, []int{}...)
	add(api.ErrLarge, 1, 2, 3, 4, 5, 6, 7, 8, 9, 10, 11)
	add(api.ErrLarge, 0, 2, 3, 4, 5, 6, 7, 8, 9, 10, 11)
	add(api.ErrLarge, 2, 2, 3, 4, 5, 6, 7, 8, 9, 10, 11)
	add(api.ErrLarge, make([]int, 60000)...)
	for _, n := range outsideOf(1, 3000) {
		add(api.ErrRange, n)
		add(api.ErrRange, n, 700)
		add(api.ErrRange, 300, n)
		add(api.ErrRange, 1, 2, 3, 4, 5, 6, 7, 8, 9, n)
		add(api.ErrRange, 1, 2, 3, 4, n, 4, 7, 8, 9, 10)
		add(api.ErrOrder, 2, 2, n)
	}
	add(api.ErrOrder, 1, 1)
	add(api.ErrOrder, 3000, 3000)
	add(api.ErrOrder, 700, 300)
	add(api.ErrOrder, 1, 2, 3, 4, 5, 6, 7, 8, 9, 9)
	add(api.ErrOrder, 1, 3, 2, 4)
	return list
}

func count(usable, total int) api.ForecastCount {
	return api.ForecastCount{Usable: usable, Total: total}
}

// tableWith returns a table with the frequencies 100, 200, and so on, and the count that at returns for each hour and column.
func tableWith(columns int, at func(hour, column int) api.ForecastCount) api.ForecastTable {
	var t api.ForecastTable
	for column := range columns {
		t.Frequencies = append(t.Frequencies, 100+100*column)
	}
	for hour := range 24 {
		var row []api.ForecastCount
		for column := range columns {
			row = append(row, at(hour, column))
		}
		t.Hours = append(t.Hours, row)
	}
	return t
}

// exampleTable is the table of the chapter's example 4.
func exampleTable() api.ForecastTable {
	t := tableWith(2, func(hour, column int) api.ForecastCount {
		switch hour {
		case 12:
			return count(1+column, 3)
		case 13:
			return count(1, 1)
		}
		return count(0, 0)
	})
	t.Frequencies = []int{300, 700}
	return t
}

// exampleDay is the table of the chapter's example 5.
func exampleDay() api.ForecastTable {
	return tableWith(2, func(hour, column int) api.ForecastCount {
		if (hour >= 10) == (column == 1) {
			return count(9, 10)
		}
		return count(1, 10)
	})
}

// lastTable is a table with as many columns as there may be, with the ends of all numbers.
func lastTable() api.ForecastTable {
	t := tableWith(10, func(hour, column int) api.ForecastCount {
		return []api.ForecastCount{count(1000, 1000), count(0, 1000), count(0, 0), count(1, 1000), count(1, 1), count(999, 1000)}[(hour+column)%6]
	})
	t.Frequencies = []int{1, 2, 3, 4, 5, 6, 7, 8, 9, 3000}
	return t
}

// irregularTable returns a valid table of any number of columns.
func irregularTable(seed int) api.ForecastTable {
	next := numbers(seed + 700)
	most := []int{2, 4, 10, 1000}[seed%4]
	return tableWith(1+next(10), func(_, _ int) api.ForecastCount {
		total := next(most + 1)
		return count(next(total+1), total)
	})
}

// pattern returns a table from a string for each hour, in which "+" is a column that is usable with the share 500, "-" one that is not, and "?" one without records. There are 24 hours; the last string is repeated.
func pattern(rows ...string) api.ForecastTable {
	return tableWith(len(rows[0]), func(hour, column int) api.ForecastCount {
		switch rows[min(hour, len(rows)-1)][column] {
		case '+':
			return count(1, 2)
		case '-':
			return count(499, 1000)
		}
		return count(0, 0)
	})
}

// dayTable returns a table in which some columns are usable with the share 500 at each hour, at most most of them at a few hours, and one at most hours.
func dayTable(seed, columns, most int) api.ForecastTable {
	next := numbers(seed + 1100)
	rows := make([]string, 24)
	last := 0
	for hour := range rows {
		row := []byte(strings.Repeat("-", columns))
		if next(3) == 0 {
			last = next(columns)
		}
		row[last] = '+'
		if next(3) == 0 {
			for range next(most) {
				row[next(columns)] = '+'
			}
		}
		rows[hour] = string(row)
	}
	return pattern(rows...)
}

// goodTables are valid tables.
func goodTables() []api.ForecastTable {
	list := []api.ForecastTable{exampleTable(), exampleDay(), lastTable(), pattern("+"), pattern("-"), pattern("?"), pattern("+-?", "?+-", "---", "+++")}
	for seed := range 60 {
		list = append(list, irregularTable(seed), dayTable(seed, 1+seed%10, 3))
	}
	return list
}

// fullTables are tables with a column that is usable with the share 500 at each hour.
func fullTables() []api.ForecastTable {
	list := []api.ForecastTable{exampleDay(), pattern("+"), pattern("++++++++++")}
	for seed := range 300 {
		list = append(list, dayTable(seed, 1+seed%10, 1+seed%7))
	}
	return list
}

// refusedTable is a table, and the hour and the error with which it is refused.
type refusedTable struct {
	t    api.ForecastTable
	hour int
	e    api.Errno
}

// badTables are tables that are refused.
func badTables() []refusedTable {
	var list []refusedTable
	spoiled := func(hour int, e api.Errno, change func(t *api.ForecastTable)) {
		t := exampleDay()
		change(&t)
		list = append(list, refusedTable{t, hour, e})
	}
	spoiled(0, api.ErrShape, func(t *api.ForecastTable) { *t = api.ForecastTable{} })
	for _, x := range badFrequencies() {
		spoiled(0, x.e, func(t *api.ForecastTable) { t.Frequencies = x.frequencies })
		spoiled(0, x.e, func(t *api.ForecastTable) { *t = api.ForecastTable{Frequencies: x.frequencies} })
		spoiled(0, x.e, func(t *api.ForecastTable) { t.Frequencies, t.Hours[0] = x.frequencies, nil })
	}
	spoiled(0, api.ErrShape, func(t *api.ForecastTable) { t.Hours = nil })
	spoiled(0, api.ErrShape, func(t *api.ForecastTable) { t.Hours = t.Hours[:23] })
	spoiled(0, api.ErrShape, func(t *api.ForecastTable) { t.Hours = t.Hours[1:]; t.Hours[5] = nil })
	spoiled(0, api.ErrShape, func(t *api.ForecastTable) { t.Hours[5][0].Usable = -1; t.Hours = t.Hours[:23] })
	spoiled(0, api.ErrShape, func(t *api.ForecastTable) { t.Hours = append(t.Hours, t.Hours[0]) })
	spoiled(0, api.ErrShape, func(t *api.ForecastTable) { t.Hours = make([][]api.ForecastCount, 60000) })
	spoiled(0, api.ErrShape, func(t *api.ForecastTable) { t.Frequencies = t.Frequencies[:1] })
	for hour := range 24 {
		row := func(e api.Errno, row ...api.ForecastCount) {
			spoiled(hour, e, func(t *api.ForecastTable) { t.Hours[hour] = row })
			if hour < 23 {
				// The errors of the next hour come later.
				spoiled(hour, e, func(t *api.ForecastTable) { t.Hours[hour], t.Hours[hour+1] = row, nil })
				spoiled(hour, e, func(t *api.ForecastTable) { t.Hours[hour], t.Hours[hour+1][0].Usable = row, -1 })
				spoiled(hour, e, func(t *api.ForecastTable) { t.Hours[hour], t.Hours[hour+1][0].Usable = row, 11 })
			}
		}
		row(api.ErrShape)
		row(api.ErrShape, count(9, 10))
		row(api.ErrShape, count(-1, 10))
		row(api.ErrShape, count(9, 10), count(9, 10), count(9, 10))
		row(api.ErrShape, count(9, 8), count(9, 10), count(9, 10))
		row(api.ErrShape, make([]api.ForecastCount, 60000)...)
		for _, n := range outsideOf(0, 1000) {
			row(api.ErrRange, count(n, 1000), count(0, 0))
			row(api.ErrRange, count(0, n), count(0, 0))
			row(api.ErrRange, count(n, n), count(9, 8))
			row(api.ErrRange, count(9, 10), count(n, 0))
			row(api.ErrRange, count(9, 10), count(1000, n))
			row(api.ErrClash, count(9, 8), count(n, n))
		}
		row(api.ErrClash, count(1, 0), count(0, 0))
		row(api.ErrClash, count(1000, 999), count(0, 0))
		row(api.ErrClash, count(1000, 1000), count(1000, 0))
	}
	return list
}

func report(hour, column int, heard bool, weight int) api.ForecastReport {
	return api.ForecastReport{Hour: hour, Column: column, Heard: heard, Weight: weight}
}

// lastReports are as many reports as there may be, for tables with at least two columns.
func lastReports() []api.ForecastReport {
	var l []api.ForecastReport
	for i := range 100 {
		l = append(l, report(i%24, i%2, i%3 == 0, 1+i%10))
	}
	return l
}

// irregularReports returns valid reports for a table.
func irregularReports(seed int, t api.ForecastTable) []api.ForecastReport {
	next := numbers(seed + 1300)
	var l []api.ForecastReport
	for range next(101) {
		l = append(l, report(next(24), next(len(t.Frequencies)), next(2) == 0, 1+next(10)))
	}
	return l
}

// knownReports are reports for counts of a table whose Total is not 0.
func knownReports(t api.ForecastTable, l []api.ForecastReport) []api.ForecastReport {
	return slices.DeleteFunc(slices.Clone(l), func(x api.ForecastReport) bool { return t.Hours[x.Hour][x.Column].Total == 0 })
}

// refusedReports are reports for a table with two columns, and the error with which they are refused.
type refusedReports struct {
	l []api.ForecastReport
	e api.Errno
}

func badReports() []refusedReports {
	var list []refusedReports
	add := func(e api.Errno, l ...api.ForecastReport) { list = append(list, refusedReports{l, e}) }
	good := report(12, 0, true, 2)
	add(api.ErrLarge, append(lastReports(), good)...)
	add(api.ErrLarge, make([]api.ForecastReport, 101)...)
	add(api.ErrLarge, append([]api.ForecastReport{report(24, 0, true, 2)}, lastReports()...)...)
	add(api.ErrLarge, make([]api.ForecastReport, 60000)...)
	for _, n := range outsideOf(0, 23) {
		add(api.ErrRange, report(n, 0, true, 2))
		add(api.ErrRange, good, report(n, 2, false, 11))
		add(api.ErrRange, report(n, 0, true, 2), report(12, 2, true, 2))
	}
	for _, n := range outsideOf(0, 1) {
		add(api.ErrMissing, report(12, n, true, 2))
		add(api.ErrMissing, good, report(13, n, false, 0))
		add(api.ErrMissing, report(12, n, true, 2), report(24, 0, true, 2))
	}
	for _, n := range outsideOf(1, 10) {
		add(api.ErrRange, report(12, 1, true, n))
		add(api.ErrRange, good, good, report(12, 1, true, n))
		add(api.ErrRange, report(12, 1, true, n), report(12, 2, true, 1))
	}
	add(api.ErrRange, append(lastReports()[:99], report(12, 0, true, 0))...)
	return list
}

// badRules are rules that are refused with ErrRange.
func badRules() []api.ForecastRule {
	var list []api.ForecastRule
	for _, n := range outsideOf(0, 9) {
		list = append(list, rule(n, 50, 100))
	}
	for _, n := range outsideOf(0, 1000) {
		list = append(list, rule(3, n, 100), rule(3, 50, n), rule(0, n, n))
	}
	return list
}

func rule(quiet, lower, raise int) api.ForecastRule {
	return api.ForecastRule{Quiet: quiet, Lower: lower, Raise: raise}
}

// refusedRange is a range, and the error with which it is refused.
type refusedRange struct {
	r api.Range
	e api.Errno
}

// badUsable are ranges that are refused as usable frequencies.
func badUsable() []refusedRange {
	list := []refusedRange{{rangeOf(1, 0), api.ErrOrder}, {rangeOf(3000, 2999), api.ErrOrder}, {rangeOf(3000, 0), api.ErrOrder}}
	for _, n := range outsideOf(0, 3000) {
		for _, r := range []api.Range{rangeOf(n, 3000), rangeOf(0, n), rangeOf(n, n), rangeOf(3000, n), rangeOf(n, 0)} {
			list = append(list, refusedRange{r, api.ErrRange})
		}
	}
	return list
}

// manyTexts returns texts that are near a given one: with a part left out, doubled, or replaced.
func manyTexts(s string) []string {
	var list []string
	for i := range len(s) {
		list = append(list, s[:i]+s[i+1:], s[:i]+s[i:i+1]+s[i:])
		for _, part := range []string{" ", ";", "-", "+", "0", "9", "x", ".", ",", "_", "\n", "\t", "\x00", "\xc3"} {
			list = append(list, s[:i]+part+s[i:], s[:i]+part+s[i+1:])
		}
	}
	for _, part := range []string{" ", "x", "0", "\n", "-", "é"} {
		list = append(list, s+part, strings.Repeat(part, 6))
	}
	return list
}
