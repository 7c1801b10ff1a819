package forecast

import (
	"fmt"
	"testing"

	"skywave/api"
)

// R3: results share memory neither with arguments nor with one another, and arguments are not modified.

func TestArgumentsStay(t *testing.T) {
	a := goodArguments()
	show := func() string { return fmt.Sprint(a) }
	before := show()
	for _, call := range allCalls() {
		call.run(a)
		want(t, "arguments after "+call.name, show(), before)
	}
	FormatRecord(a.records[0])
	want(t, "arguments after all calls", show(), before)

	hours, _ := TableOf(a.records, a.month, a.frequencies)
	windows, _ := WindowsOf(a.records, a.query, a.share)
	columns, _ := UsableAt(a.table, a.hour, a.share)
	schedule, _ := ScheduleOf(a.table, a.share)
	apart, _ := ApartOf(a.table, a.share)
	for _, reports := range [][]api.ForecastReport{a.reports, nil} {
		blended, _ := Blended(a.table, reports, a.weight)
		spoil(blended.Frequencies, 7)
		for _, row := range blended.Hours {
			spoil(row, count(7, 7))
		}
		spoil(blended.Hours, nil)
	}
	spoil(hours[0], count(7, 7))
	spoil(windows, rangeOf(7, 7))
	spoil(columns, 7)
	spoil(schedule, 7)
	spoil(apart, rangeOf(7, 7))
	want(t, "arguments after results were changed", show(), before)
}

// No row of a result reaches into another one, even if those of the argument are the same.
func TestRowsAreApart(t *testing.T) {
	row := []api.ForecastCount{count(1, 2), count(3, 4)}
	table := api.ForecastTable{Frequencies: []int{300, 700}}
	for range 24 {
		table.Hours = append(table.Hours, row)
	}
	blended, e := Blended(table, []api.ForecastReport{report(5, 1, true, 2)}, 1)
	want(t, "Blended", e, api.OK)
	hours, _ := TableOf(exampleRecords(), 3, []int{300, 700})
	for hour := range 24 {
		expected := []api.ForecastCount{count(1, 2), count(3, 4)}
		if hour == 5 {
			expected[1] = count(5, 6)
		}
		want(t, "a row of a table with reports", blended.Hours[hour], expected)
		want(t, "a row of a table", hours[hour], exampleTable().Hours[hour])
		spoil(blended.Hours[hour], count(7, 7))
		spoil(hours[hour], count(7, 7))
	}
	want(t, "the row of the argument", row, []api.ForecastCount{count(1, 2), count(3, 4)})
}

// R3: memory beyond the end of a list is not touched.
func TestSpareMemoryStays(t *testing.T) {
	a := goodArguments()
	records := append(exampleRecords(), record(7, 7, 7, 7, 7, 7))
	frequencies := []int{300, 700, 7}
	reports := append(a.reports, report(7, 7, true, 7))
	rows := append(exampleDay().Hours, []api.ForecastCount{count(7, 7)})
	schedule := append(a.schedule, 7)
	apart := append(a.apart, rangeOf(7, 7))
	a.records, a.frequencies, a.reports = records[:4], frequencies[:2], reports[:2]
	a.table = api.ForecastTable{Frequencies: frequencies[:2], Hours: rows[:24]}
	a.schedule, a.apart = schedule[:24], apart[:1]
	for _, call := range allCalls() {
		got := call.run(a)
		want(t, call.name, got[len(got)-1], api.OK)
	}
	want(t, "what is behind the lists",
		results(records[4], frequencies[2], reports[2], rows[24], schedule[24], apart[1]),
		results(record(7, 7, 7, 7, 7, 7), 7, report(7, 7, true, 7), []api.ForecastCount{count(7, 7)}, 7, rangeOf(7, 7)))
}

// R4: a call does not depend on what was done with the results of an earlier one.
func TestResultsAreNew(t *testing.T) {
	a := goodArguments()
	for range 2 {
		hours, _ := TableOf(a.records, a.month, a.frequencies)
		want(t, "TableOf", hours, exampleTable().Hours)
		spoil(hours[12], count(7, 7))
		windows, _ := WindowsOf(a.records, a.query, 600)
		want(t, "WindowsOf", windows, ranges(400, 800))
		spoil(windows, rangeOf(7, 7))
		columns, _ := UsableAt(a.table, 5, 100)
		want(t, "UsableAt", columns, []int{0, 1})
		spoil(columns, 7)
		schedule, _ := ScheduleOf(a.table, 500)
		want(t, "ScheduleOf", schedule, a.schedule)
		spoil(schedule, 7)
		apart, _ := ApartOf(a.table, 500)
		want(t, "ApartOf", len(apart), 1)
		spoil(apart, rangeOf(7, 7))
		bins, _ := CalibrationOf(a.table, a.reports)
		want(t, "CalibrationOf", bins, [5]api.ForecastBin{{Heard: 2, Total: 2}, {}, {}, {}, {Total: 3}})
	}
}

// A range over records or columns may be left early.
func TestRangesAreLeft(t *testing.T) {
	for most := 1; most <= 2; most++ {
		records := 0
		for range counting(exampleRecords(), query(3, 12, 0, 9, 0)) {
			records++
			if records == most {
				break
			}
		}
		columns := 0
		for range (plan{pattern("+++"), 500}).columns(0) {
			columns++
			if columns == most {
				break
			}
		}
		want(t, "records and columns", results(records, columns), results(most, most))
	}
}
