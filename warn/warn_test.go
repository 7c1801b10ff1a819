package warn

import (
	"math"
	"testing"

	"skywave/api"
)

// P8.1

func TestCheckRules(t *testing.T) {
	for _, r := range goodRules() {
		i, e := CheckRules(r)
		want(t, "CheckRules", results(i, e), results(0, api.OK))
	}
	for _, name := range goodNames() {
		i, e := CheckRules(rules(name, 1, 2, 1))
		want(t, "CheckRules of "+name, results(i, e), results(0, api.OK))
	}
	for hold := 1; hold <= 20; hold++ {
		i, e := CheckRules(rules("a", hold, 2, 1))
		want(t, "CheckRules of a hold", results(i, e), results(0, api.OK))
	}
	for _, x := range badRules() {
		i, e := CheckRules(x.r)
		if i != x.index || e != x.e {
			t.Errorf("CheckRules of %s: %d, %d, want %d, %d", start(FormatRules(x.r)), i, e, x.index, x.e)
		}
	}
}

// levelByDefinition is the maximum level k whose Up[k - 1] is at most a value.
func levelByDefinition(r api.WarnRules, value int) int {
	for k := len(r.Up); k >= 1; k-- {
		if r.Up[k-1] <= value {
			return k
		}
	}
	return 0
}

func TestLevelFrom(t *testing.T) {
	for _, x := range []struct{ value, level int }{{-1000000, 0}, {0, 0}, {40, 0}, {49, 0}, {50, 1}, {51, 1}, {65, 1}, {79, 1}, {80, 2}, {81, 2}, {1000000, 2}} {
		level, e := LevelFrom(exampleRules(), x.value)
		want(t, "LevelFrom", results(level, e), results(x.level, api.OK))
	}
	for _, r := range goodRules() {
		for _, value := range valuesOfInterest(r) {
			level, e := LevelFrom(r, value)
			want(t, "LevelFrom", results(level, e), results(levelByDefinition(r, value), api.OK))
		}
	}
	for _, value := range outsideOf(-1000000, 1000000) {
		level, e := LevelFrom(exampleRules(), value)
		refused(t, "LevelFrom", api.ErrRange, level, e)
	}
}

// P8.2

func TestOpeningsBound(t *testing.T) {
	for _, x := range []struct {
		r                api.WarnRules
		variation, bound int
	}{
		{exampleRules(), 100, 5},
		{exampleRules(), 0, 1},
		{exampleRules(), 21, 1},
		{exampleRules(), 22, 2},
		{exampleRules(), 23, 2},
		{exampleRules(), 43, 2},
		{exampleRules(), 44, 3},
		{exampleRules(), 109, 5},
		{exampleRules(), 110, 6},
		{exampleRules(), 1000000000, 45454546},
		{rules("a", 1, 0, -1), 3, 1},
		{rules("a", 1, 0, -1), 4, 2},
		{rules("a", 1, 0, -1), 1000000000, 250000001},
		{rules("a", 20, 1000000, -1000000), 4000001, 1},
		{rules("a", 20, 1000000, -1000000), 4000002, 2},
		{rules("a", 1, 10, 1, 11, 2), 20, 2}, // the other levels do not count
	} {
		bound, e := OpeningsBound(x.r, x.variation)
		want(t, "OpeningsBound", results(bound, e), results(x.bound, api.OK))
	}
	for _, variation := range outsideOf(0, 1000000000) {
		bound, e := OpeningsBound(exampleRules(), variation)
		refused(t, "OpeningsBound", api.ErrRange, bound, e)
	}
	bound, e := OpeningsBound(rules("a", 1, 0, -1), math.MaxInt)
	refused(t, "OpeningsBound", api.ErrRange, bound, e)
}
