package forecast

import (
	"fmt"
	"slices"
	"strings"
	"testing"

	"skywave/api"
)

// P7.4

// hoursOf returns the columns of a schedule from the digits of a string; the last one is repeated.
func hoursOf(digits string) []int {
	var schedule []int
	for hour := range 24 {
		schedule = append(schedule, int(digits[min(hour, len(digits)-1)]-'0'))
	}
	return schedule
}

func TestScheduleOf(t *testing.T) {
	ten := strings.Repeat("0", 10)
	for _, x := range []struct {
		table    api.ForecastTable
		schedule []int
		changes  int
	}{
		{exampleDay(), hoursOf(ten + "1"), 1},
		{pattern("+"), hoursOf("0"), 0},
		{pattern("++"), hoursOf("0"), 0},
		{pattern("-+"), hoursOf("1"), 0},
		{pattern("?+"), hoursOf("1"), 0},
		{pattern("++", "-+"), hoursOf("1"), 0},
		{pattern("+-", "++", "-+"), hoursOf("001"), 1},
		{pattern("-+", "++", "+-"), hoursOf("100"), 1},
		{pattern("-+", "++", "++", "+-"), hoursOf("1000"), 1},
		{pattern("+-", "++", "++", "-+"), hoursOf("0001"), 1},
		{pattern("+-", "-+", "+-", "-+", "++"), hoursOf("0101"), 3},
		{pattern("+-", "-+", "++", "+-"), hoursOf("0100"), 2},
		{pattern("++-", "-++", "--+"), hoursOf("02"), 1},
		{pattern("++-", "-+-", "--+"), hoursOf("112"), 1},
		{pattern("+--", "-+-", "--+"), hoursOf("012"), 2},
		{pattern("+++", "-++", "--+"), hoursOf("2"), 0},
		{pattern("+++", "++-", "--+"), hoursOf("002"), 1},
		{pattern("+++", "-++", "-+-", "+++", "+-+"), hoursOf("11100"), 1},
		{pattern("--+", "+++", "++-"), hoursOf("200"), 1},
		{pattern("--+", "+++", "++-", "-+-"), hoursOf("211"), 1},
		{pattern("---------+"), hoursOf("9"), 0},
	} {
		schedule, e := ScheduleOf(x.table, 500)
		want(t, "ScheduleOf", results(schedule, e), results(x.schedule, api.OK))
		changes, e := ChangesOf(x.table, 500, schedule)
		want(t, "ChangesOf", results(changes, e), results(x.changes, api.OK))
	}
}

// A schedule may change at each hour from 1 on, and not to its first column at the end of the day.
func TestScheduleOfMostChanges(t *testing.T) {
	var rows []string
	for hour := range 24 {
		rows = append(rows, []string{"+-", "-+"}[hour%2])
	}
	table := pattern(rows...)
	schedule, e := ScheduleOf(table, 500)
	want(t, "ScheduleOf", results(schedule, e), results(hoursOf(strings.Repeat("01", 12)), api.OK))
	changes, e := ChangesOf(table, 500, schedule)
	want(t, "ChangesOf", results(changes, e), results(23, api.OK))
	apart, e := ApartOf(table, 500)
	want(t, "ApartOf", results(len(apart), e), results(23, api.OK))
	number, e := CheckApart(table, 500, apart)
	want(t, "CheckApart", results(number, e), results(23, api.OK))
}

func TestNoSchedule(t *testing.T) {
	for hour := range 24 {
		for _, bad := range []string{"--", "??", "-?"} {
			rows := slices.Repeat([]string{"++"}, 24)
			rows[hour] = bad
			schedule, e := ScheduleOf(pattern(rows...), 500)
			refused(t, "ScheduleOf", api.ErrNone, schedule, e)
			apart, e := ApartOf(pattern(rows...), 500)
			refused(t, "ApartOf", api.ErrNone, apart, e)
		}
	}
	schedule, e := ScheduleOf(exampleDay(), 901)
	refused(t, "ScheduleOf", api.ErrNone, schedule, e)
	schedule, e = ScheduleOf(exampleDay(), 100)
	want(t, "ScheduleOf", results(schedule, e), results(hoursOf("0"), api.OK))
}

// schedulesOf ranges over all schedules of a table in lexicographic order.
func schedulesOf(x api.ForecastTable, share int) func(yield func([]int) bool) {
	return func(yield func([]int) bool) {
		var goOn func(schedule []int) bool
		goOn = func(schedule []int) bool {
			if len(schedule) == 24 {
				return yield(schedule)
			}
			for column := range x.Frequencies {
				if isUsableIn(x, share, len(schedule), column) && !goOn(append(schedule, column)) {
					return false
				}
			}
			return true
		}
		goOn(nil)
	}
}

func changesByDefinition(schedule []int) int {
	changes := 0
	for hour := 1; hour < 24; hour++ {
		if schedule[hour] != schedule[hour-1] {
			changes++
		}
	}
	return changes
}

// numberOfSchedules returns how many schedules a table has, as far as a limit.
func numberOfSchedules(x api.ForecastTable, limit int) int {
	number := 1
	for hour := range 24 {
		usable := 0
		for column := range x.Frequencies {
			if isUsableIn(x, 500, hour, column) {
				usable++
			}
		}
		number = min(number*usable, limit)
	}
	return number
}

// The schedule is found by going through all of them, where there are not too many.
func TestScheduleByDefinition(t *testing.T) {
	tried := 0
	for seed := range 600 {
		x := dayTable(seed, 1+seed%10, 1+seed%4)
		if numberOfSchedules(x, 20000) == 20000 {
			continue
		}
		tried++
		var best []int
		for schedule := range schedulesOf(x, 500) {
			if best == nil || changesByDefinition(schedule) < changesByDefinition(best) {
				best = slices.Clone(schedule)
			}
		}
		schedule, e := ScheduleOf(x, 500)
		want(t, fmt.Sprint("ScheduleOf ", seed), results(schedule, e), results(best, api.OK))
		apart, e := ApartOf(x, 500)
		want(t, fmt.Sprint("ApartOf ", seed), results(len(apart), e), results(changesByDefinition(best), api.OK))
	}
	if tried < 200 {
		t.Errorf("%d tables have few schedules", tried)
	}
}

// leastChanges returns the minimum number of changes from an hour on at which the schedule has one of some columns: each column is the one that lasts longest, and stays as long as it can.
func leastChanges(x api.ForecastTable, hour int, columns []int) int {
	longest := hour
	for _, column := range columns {
		end := hour
		for end < 24 && isUsableIn(x, 500, end, column) {
			end++
		}
		longest = max(longest, end)
	}
	if longest == 24 {
		return 0
	}
	return 1 + leastChanges(x, longest, columnsOf(x))
}

func columnsOf(x api.ForecastTable) []int {
	var columns []int
	for column := range x.Frequencies {
		columns = append(columns, column)
	}
	return columns
}

// Each column of the schedule is the first one with which the minimum is reached.
func TestScheduleStepByStep(t *testing.T) {
	for i, x := range fullTables() {
		schedule, e := ScheduleOf(x, 500)
		want(t, "ScheduleOf", results(len(schedule), e), results(24, api.OK))
		least := leastChanges(x, 0, columnsOf(x))
		want(t, fmt.Sprint("changes of ", i), changesByDefinition(schedule), least)
		done := 0
		for hour, column := range schedule {
			for lower := range column {
				if !isUsableIn(x, 500, hour, lower) {
					continue
				}
				changes := done + leastChanges(x, hour, []int{lower})
				if hour > 0 && lower != schedule[hour-1] {
					changes++
				}
				if changes <= least {
					t.Errorf("table %d: the column %d at %d instead of %d", i, lower, hour, column)
				}
			}
			if hour > 0 && column != schedule[hour-1] {
				done++
			}
		}
	}
}

func TestChangesOf(t *testing.T) {
	all := pattern("+++")
	for _, x := range []struct {
		digits  string
		changes int
	}{
		{"0", 0},
		{"2", 0},
		{"01", 1},
		{"10", 1},
		{"012", 2},
		{"0120", 3},
		{strings.Repeat("0", 23) + "1", 1},
		{strings.Repeat("0", 12) + "121", 3},
		{strings.Repeat("01", 12), 23},
		{strings.Repeat("012", 8), 23},
		{strings.Repeat("0011", 6), 11},
	} {
		n, e := ChangesOf(all, 500, hoursOf(x.digits))
		want(t, "ChangesOf", results(n, e), results(x.changes, api.OK))
	}
}

func TestChangesOfNoSchedule(t *testing.T) {
	all := pattern("+++")
	for _, length := range []int{0, 1, 23, 25, 48, 60000} {
		n, e := ChangesOf(all, 500, make([]int, length))
		refused(t, "ChangesOf", api.ErrShape, n, e)
		n, e = ChangesOf(all, 500, slices.Repeat([]int{-1}, length))
		refused(t, "ChangesOf", api.ErrShape, n, e)
	}
	n, e := ChangesOf(all, 500, nil)
	refused(t, "ChangesOf of nothing", api.ErrShape, n, e)
	for hour := range 24 {
		for _, column := range outsideOf(0, 2) {
			schedule := hoursOf("01")
			schedule[hour] = column
			n, e := ChangesOf(all, 500, schedule)
			refused(t, "ChangesOf", api.ErrMissing, n, e)
		}
		for _, bad := range []string{"-+", "?+"} {
			rows := slices.Repeat([]string{"++"}, 24)
			rows[hour] = bad
			n, e := ChangesOf(pattern(rows...), 500, hoursOf("0"))
			refused(t, "ChangesOf", api.ErrRefused, n, e)
			n, e = ChangesOf(pattern(rows...), 500, hoursOf("1"))
			want(t, "ChangesOf", results(n, e), results(0, api.OK))
			if hour == 23 {
				continue
			}
			// The errors of the next hour come later.
			schedule := hoursOf("0")
			schedule[hour+1] = 2
			n, e = ChangesOf(pattern(rows...), 500, schedule)
			refused(t, "ChangesOf", api.ErrRefused, n, e)
			schedule = hoursOf("0")
			schedule[hour] = -1
			rows[hour+1] = bad
			n, e = ChangesOf(pattern(rows...), 500, schedule)
			refused(t, "ChangesOf", api.ErrMissing, n, e)
		}
	}
	n, e = ChangesOf(exampleDay(), 901, hoursOf("0"))
	refused(t, "ChangesOf", api.ErrRefused, n, e)
	n, e = ChangesOf(exampleDay(), 100, hoursOf("01"))
	want(t, "ChangesOf", results(n, e), results(1, api.OK))
}

// P7.10

func TestNoScheduleHasFewerChanges(t *testing.T) {
	for _, x := range fullTables() {
		schedule, _ := ScheduleOf(x, 500)
		changes, e := ChangesOf(x, 500, schedule)
		want(t, "ChangesOf", results(changes, e), results(changesByDefinition(schedule), api.OK))
		apart, e := ApartOf(x, 500)
		want(t, "ApartOf", e, api.OK)
		number, e := CheckApart(x, 500, apart)
		want(t, "CheckApart", results(number, e), results(changes, api.OK))
	}
}

// No schedule has fewer changes than ranges that are accepted, whatever they are.
func TestRangesBoundChanges(t *testing.T) {
	for seed := range 3000 {
		x := dayTable(seed, 1+seed%5, 3)
		apart := irregularApart(seed)
		number, e := CheckApart(x, 500, apart)
		if e != api.OK {
			continue
		}
		want(t, "CheckApart", number, len(apart))
		schedule, _ := ScheduleOf(x, 500)
		if changes := changesByDefinition(schedule); changes < number {
			t.Errorf("%d ranges, but %d changes", number, changes)
		}
	}
}
