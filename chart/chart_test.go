package chart

import (
	"fmt"
	"slices"
	"testing"

	"skywave/api"
)

// P6.1

func TestCheckStations(t *testing.T) {
	for _, l := range goodStations() {
		i, e := CheckStations(l)
		want(t, "CheckStations", results(i, e), results(0, api.OK))
	}
	for _, x := range badStations() {
		i, e := CheckStations(x.l)
		want(t, "CheckStations", results(i, e), results(x.index, x.e))
	}
}

func TestCheckStationsAtLimits(t *testing.T) {
	for _, s := range []api.ChartStation{
		station("a", 0, 0, 0, 0, 0),
		station("Z", 30, 30, 10000, 10000, 9),
		station("z-0-9-Z-a--7", 0, 30, -10000, 10000, 9),
		station("A", 30, 0, -10000, -10000, 0),
	} {
		i, e := CheckStations([]api.ChartStation{s})
		want(t, "CheckStations", results(i, e), results(0, api.OK))
	}
}

func TestJoined(t *testing.T) {
	a, b := exampleStations()[0], exampleStations()[1]
	younger, older, c := b, b, station("c", 9, 9, 1, 1, 1)
	younger.Age, younger.At, younger.Value = 4, place(7, 7), rangeOf(50, 60)
	older.Age, older.At = 6, place(8, 8)
	for _, x := range []struct{ a, b, joined []api.ChartStation }{
		{exampleStations(), exampleStations(), exampleStations()},
		{exampleStations(), []api.ChartStation{younger}, []api.ChartStation{a, younger}},
		{exampleStations(), []api.ChartStation{older}, exampleStations()},
		{[]api.ChartStation{younger}, exampleStations(), []api.ChartStation{younger, a}},
		{[]api.ChartStation{older}, exampleStations(), []api.ChartStation{b, a}},
		{[]api.ChartStation{c}, exampleStations(), []api.ChartStation{c, a, b}},
		{[]api.ChartStation{c, b}, []api.ChartStation{younger, a}, []api.ChartStation{c, younger, a}},
		{[]api.ChartStation{a, b, c}, []api.ChartStation{c, older, a}, []api.ChartStation{a, b, c}},
		{lastStations()[:2], lastStations()[2:], lastStations()},
		{lastStations(), lastStations()[3:], lastStations()},
	} {
		joined, e := Joined(x.a, x.b)
		want(t, "Joined", results(joined, e), results(x.joined, api.OK))
	}
}

func TestJoinedRefused(t *testing.T) {
	a, b := exampleStations()[0], exampleStations()[1]
	elsewhere, lower, higher := b, b, b
	elsewhere.At.Y++
	lower.Value.Lo--
	higher.Value.Hi++
	few := []api.ChartStation{station("f", 0, 0, 0, 0, 0)}
	for _, x := range []struct {
		e    api.Errno
		a, b []api.ChartStation
	}{
		{api.ErrClash, exampleStations(), []api.ChartStation{elsewhere}},
		{api.ErrClash, exampleStations(), []api.ChartStation{lower}},
		{api.ErrClash, exampleStations(), []api.ChartStation{few[0], higher}},
		{api.ErrClash, []api.ChartStation{a, b}, []api.ChartStation{a, higher}},
		{api.ErrLarge, lastStations(), few},
		{api.ErrLarge, few, lastStations()},
		{api.ErrLarge, lastStations()[:3], append(few, lastStations()[3:]...)},
		{api.ErrClash, append(lastStations()[:4], b), []api.ChartStation{few[0], elsewhere}},
	} {
		joined, e := Joined(x.a, x.b)
		refused(t, "Joined", x.e, joined, e)
	}
}

// With the reports of two times, the stations joined are those of a map by names.
func TestJoinedByDefinition(t *testing.T) {
	for seed := range 2000 {
		a, b := report(2*seed), report(2*seed+1)
		expected, e := joinedByDefinition(a, b)
		joined, got := Joined(a, b)
		want(t, fmt.Sprint("Joined of ", a, b), results(joined, got), results(expected, e))
	}
}

// report returns stations with names and ages of which there are few.
func report(seed int) []api.ChartStation {
	next := numbers(seed + 300)
	names := []string{"a", "b", "c", "d", "e", "f"}
	var list []api.ChartStation
	for range 1 + next(4) {
		i := next(len(names))
		list = append(list, station(names[i], 0, next(5)/4, 7, 7, next(5)))
		names = slices.Delete(names, i, i+1)
	}
	return list
}

func joinedByDefinition(a, b []api.ChartStation) ([]api.ChartStation, api.Errno) {
	reports := map[string][]api.ChartStation{}
	var names []string
	for _, s := range slices.Concat(a, b) {
		if len(reports[s.Name]) == 0 {
			names = append(names, s.Name)
		}
		reports[s.Name] = append(reports[s.Name], s)
	}
	var joined []api.ChartStation
	for _, name := range names {
		first, last := reports[name][0], reports[name][len(reports[name])-1]
		if first.Age == last.Age && first != last {
			return nil, api.ErrClash
		}
		if last.Age < first.Age {
			first = last
		}
		joined = append(joined, first)
	}
	if len(joined) > 5 {
		return nil, api.ErrLarge
	}
	return joined, api.OK
}

// P6.12

func TestJoinedWithThemselves(t *testing.T) {
	for _, l := range goodStations() {
		joined, e := Joined(l, l)
		want(t, "Joined with themselves", results(joined, e), results(l, api.OK))
	}
}

func TestJoinedInAnyOrder(t *testing.T) {
	byName := func(a, b api.ChartStation) int { return int(a.Name[0]) - int(b.Name[0]) }
	for seed := range 1000 {
		a, b := report(2*seed), report(2*seed+1)
		first, e := Joined(a, b)
		second, other := Joined(b, a)
		slices.SortFunc(first, byName)
		slices.SortFunc(second, byName)
		want(t, fmt.Sprint("Joined of ", a, b), results(first, e), results(second, other))
	}
}
