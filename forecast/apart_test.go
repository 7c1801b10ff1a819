package forecast

import (
	"fmt"
	"slices"
	"testing"

	"skywave/api"
)

// P7.4

func ranges(ends ...int) []api.Range {
	var list []api.Range
	for i := 0; i < len(ends); i += 2 {
		list = append(list, rangeOf(ends[i], ends[i+1]))
	}
	return list
}

// irregularApart returns ranges, many of which are in order.
func irregularApart(seed int) []api.Range {
	next := numbers(seed + 1700)
	var list []api.Range
	at := next(6)
	for range next(6) {
		end := at + 1 + next(5)
		list = append(list, rangeOf(at, end))
		at = end + next(4)
		if next(20) == 0 {
			at -= 2
		}
	}
	return list
}

func TestCheckApart(t *testing.T) {
	for _, apart := range [][]api.Range{
		nil,
		{},
		ranges(9, 10),
		ranges(0, 10),
		ranges(9, 23),
		ranges(0, 23),
		ranges(8, 11),
	} {
		n, e := CheckApart(exampleDay(), 500, apart)
		want(t, fmt.Sprint("CheckApart of ", apart), results(n, e), results(len(apart), api.OK))
	}
	for _, x := range []struct {
		apart []api.Range
		i     int
		e     api.Errno
	}{
		{ranges(0, 9), 0, api.ErrClash},
		{ranges(0, 1), 0, api.ErrClash},
		{ranges(10, 23), 0, api.ErrClash},
		{ranges(10, 11), 0, api.ErrClash},
		{ranges(8, 9), 0, api.ErrClash},
		{ranges(22, 23), 0, api.ErrClash},
		{ranges(0, 10, 10, 11), 1, api.ErrClash},
		{ranges(0, 9, 9, 10), 0, api.ErrClash},
		{ranges(0, 10, 9, 10), 1, api.ErrOrder},
		{ranges(9, 10, 9, 10), 1, api.ErrOrder},
		{ranges(9, 10, 0, 1), 1, api.ErrOrder},
		{ranges(9, 10, 10, 10), 1, api.ErrOrder},
		{ranges(9, 9), 0, api.ErrOrder},
		{ranges(10, 9), 0, api.ErrOrder},
		{ranges(0, 0), 0, api.ErrOrder},
		{ranges(23, 23), 0, api.ErrOrder},
		{ranges(23, 0), 0, api.ErrOrder},
		{ranges(9, 10, 11, 10, 0, 24), 1, api.ErrOrder},
		{ranges(0, 9, 9, 9), 0, api.ErrClash},
		{ranges(0, 9, 0, 24), 0, api.ErrClash},
	} {
		n, e := CheckApart(exampleDay(), 500, x.apart)
		want(t, fmt.Sprint("CheckApart of ", x.apart), results(n, e), results(x.i, x.e))
	}
}

func TestCheckApartOutside(t *testing.T) {
	for _, n := range outsideOf(0, 23) {
		for _, x := range []api.Range{rangeOf(n, 10), rangeOf(9, n), rangeOf(n, n), rangeOf(n, 0), rangeOf(23, n)} {
			i, e := CheckApart(exampleDay(), 500, []api.Range{x})
			want(t, fmt.Sprint("CheckApart of ", x), results(i, e), results(0, api.ErrRange))
			i, e = CheckApart(exampleDay(), 500, []api.Range{rangeOf(9, 10), x, rangeOf(10, 10)})
			want(t, fmt.Sprint("CheckApart of ", x), results(i, e), results(1, api.ErrRange))
		}
	}
}

func TestCheckApartLarge(t *testing.T) {
	none := pattern("-")
	var all []api.Range
	for hour := range 23 {
		all = append(all, rangeOf(hour, hour+1))
	}
	n, e := CheckApart(none, 500, all)
	want(t, "CheckApart of 23", results(n, e), results(23, api.OK))
	n, e = CheckApart(none, 500, append(all, rangeOf(23, 24)))
	want(t, "CheckApart of 24", results(n, e), results(0, api.ErrLarge))
	for _, length := range []int{24, 25, 60000} {
		n, e := CheckApart(none, 500, make([]api.Range, length))
		want(t, "CheckApart of many", results(n, e), results(0, api.ErrLarge))
	}
	n, e = CheckApart(none, 500, make([]api.Range, 23))
	want(t, "CheckApart of many", results(n, e), results(0, api.ErrOrder))
}

// A column that is not usable at one hour of a range does not clash.
func TestCheckApartOfLongRanges(t *testing.T) {
	for hour := range 24 {
		rows := slices.Repeat([]string{"+-+"}, 24)
		rows[hour] = "--+"
		n, e := CheckApart(pattern(rows...), 500, ranges(0, 23))
		want(t, "CheckApart with a column that stays", results(n, e), results(0, api.ErrClash))
		rows[hour] = "-+-"
		n, e = CheckApart(pattern(rows...), 500, ranges(0, 23))
		want(t, "CheckApart with none", results(n, e), results(1, api.OK))
		if hour > 1 {
			n, e = CheckApart(pattern(rows...), 500, ranges(0, hour-1))
			want(t, "CheckApart before the hour", results(n, e), results(0, api.ErrClash))
		}
		if hour < 22 {
			n, e = CheckApart(pattern(rows...), 500, ranges(hour+1, 23))
			want(t, "CheckApart after the hour", results(n, e), results(0, api.ErrClash))
		}
	}
}

// Without usable columns ranges may be apart, but none are found.
func TestApartOfNothing(t *testing.T) {
	n, e := CheckApart(pattern("-"), 500, ranges(0, 1, 1, 2, 2, 23))
	want(t, "CheckApart", results(n, e), results(3, api.OK))
	apart, e := ApartOf(pattern("-"), 500)
	refused(t, "ApartOf", api.ErrNone, apart, e)
}

func TestCheckApartByDefinition(t *testing.T) {
	accepted := 0
	for seed := range 3000 {
		x, apart := dayTable(seed, 1+seed%5, 3), irregularApart(seed)
		i, e := apartByDefinition(x, apart)
		n, got := CheckApart(x, 500, apart)
		want(t, fmt.Sprint("CheckApart of ", apart), results(n, got), results(i, e))
		if e == api.OK && len(apart) > 1 {
			accepted++
		}
	}
	if accepted < 50 {
		t.Errorf("%d accepted", accepted)
	}
}

func apartByDefinition(x api.ForecastTable, apart []api.Range) (int, api.Errno) {
	for i, r := range apart {
		if r.Lo < 0 || r.Hi > 23 || r.Lo > 23 || r.Hi < 0 {
			return i, api.ErrRange
		}
		if r.Lo >= r.Hi || i > 0 && r.Lo < apart[i-1].Hi {
			return i, api.ErrOrder
		}
		for column := range x.Frequencies {
			hours := 0
			for hour := r.Lo; hour <= r.Hi; hour++ {
				if isUsableIn(x, 500, hour, column) {
					hours++
				}
			}
			if hours == r.Hi-r.Lo+1 {
				return i, api.ErrClash
			}
		}
	}
	return len(apart), api.OK
}

func TestApartOf(t *testing.T) {
	for _, x := range []struct {
		table api.ForecastTable
		share int
		n     int
	}{
		{exampleDay(), 500, 1},
		{exampleDay(), 900, 1},
		{exampleDay(), 100, 0},
		{pattern("+"), 500, 0},
		{pattern("+-", "++", "-+"), 500, 1},
		{pattern("+-", "-+", "+-", "-+"), 500, 3},
		{pattern("++-", "-++", "--+"), 500, 1},
		{pattern("+--", "-+-", "--+"), 500, 2},
		{pattern("+++", "-++", "-+-", "+++", "+-+"), 500, 1},
	} {
		apart, e := ApartOf(x.table, x.share)
		want(t, fmt.Sprint("ApartOf ", apart), results(len(apart), e), results(leastOf(x.table, x.share), api.OK))
		n, e := CheckApart(x.table, x.share, apart)
		want(t, "CheckApart of ApartOf", results(n, e), results(len(apart), api.OK))
	}
}

// leastOf returns the number of changes of the schedule.
func leastOf(x api.ForecastTable, share int) int {
	schedule, _ := ScheduleOf(x, share)
	return changesByDefinition(schedule)
}
