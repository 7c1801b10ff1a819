package warn

import (
	"slices"
	"testing"

	"skywave/api"
)

// stepByDefinition is a step, sentence by sentence.
func stepByDefinition(r api.WarnRules, s api.WarnState, value int) api.WarnState {
	after := s
	from := levelByDefinition(r, value)
	switch {
	case from > s.Level:
		after.Level = from
	case s.Level > 0 && value < r.Down[s.Level-1]:
		after.Below = s.Below + 1
		if after.Below == r.Hold {
			after.Level = 0
			for k := 1; k < s.Level; k++ {
				if r.Down[k-1] <= value {
					after.Level = k
				}
			}
		}
	default:
		after.Below = 0
	}
	if after.Level != s.Level {
		after.Below = 0
		after.Version = s.Version + 1
	}
	return after
}

// P8.2

func TestStepOf(t *testing.T) {
	r := exampleRules()
	for _, x := range []struct {
		s     api.WarnState
		value int
		after api.WarnState
	}{
		{state(0, 0, 0), 49, state(0, 0, 0)},
		{state(0, 0, 0), 50, state(1, 0, 1)},
		{state(0, 0, 7), 80, state(2, 0, 8)}, // by several levels at once
		{state(0, 0, 7), -1000000, state(0, 0, 7)},
		{state(1, 0, 3), 40, state(1, 0, 3)},
		{state(1, 0, 3), 39, state(1, 1, 3)},
		{state(1, 1, 3), 39, state(0, 0, 4)},
		{state(1, 1, 3), 40, state(1, 0, 3)},
		{state(1, 1, 3), 50, state(1, 0, 3)}, // at least Up of the present level
		{state(1, 1, 3), 80, state(2, 0, 4)},
		{state(2, 1, 3), 65, state(2, 0, 3)},
		{state(2, 1, 3), 64, state(1, 0, 4)},
		{state(2, 1, 3), 40, state(1, 0, 4)},
		{state(2, 1, 3), 39, state(0, 0, 4)}, // by several levels at once
		{state(2, 1, 3), 1000000, state(2, 0, 3)},
		{state(2, 0, 999999), 39, state(2, 1, 999999)},
		{state(2, 1, 999999), 39, state(0, 0, 1000000)},
		{state(1, 1, 999999), 80, state(2, 0, 1000000)},
	} {
		after, e := StepOf(r, x.s, x.value)
		want(t, "StepOf", results(after, e), results(x.after, api.OK))
	}
	r.Hold = 1
	after, e := StepOf(r, state(1, 0, 1), 39)
	want(t, "StepOf with the hold 1", results(after, e), results(state(0, 0, 2), api.OK))
}

func TestStepByDefinition(t *testing.T) {
	for _, r := range goodRules() {
		for _, s := range statesOf(r) {
			for _, value := range valuesOfInterest(r) {
				after, e := StepOf(r, s, value)
				want(t, "StepOf", results(after, e), results(stepByDefinition(r, s, value), api.OK))
			}
		}
	}
}

func TestStepErrors(t *testing.T) {
	for _, x := range badStates() {
		s, e := StepOf(exampleRules(), x.s, 55)
		refused(t, "StepOf", x.e, s, e)
	}
	// Level and Below are limited by the rules.
	for _, x := range []struct {
		r api.WarnRules
		s api.WarnState
		e api.Errno
	}{
		{rules("a", 1, 50, 40), state(2, 0, 0), api.ErrRange},
		{rules("a", 1, 50, 40), state(1, 1, 0), api.ErrRange},
		{rules("a", 1, 50, 40), state(0, 1, 0), api.ErrRange},
		{rules("a", 3, 50, 40), state(1, 3, 0), api.ErrRange},
		{rules("a", 3, 50, 40), state(0, 2, 0), api.ErrClash},
		{rules("a", 20, 50, 40), state(1, 20, 0), api.ErrRange},
		{rules("a", 20, 50, 40), state(0, 19, 0), api.ErrClash},
		{rules("a", 20, 50, 40), state(1, 19, 0), api.OK},
		{rules("a", 20, 10, 1, 20, 11, 30, 21, 40, 31), state(4, 19, 0), api.OK},
		{rules("a", 20, 10, 1, 20, 11, 30, 21, 40, 31), state(5, 19, 0), api.ErrRange},
	} {
		_, e := StepOf(x.r, x.s, 1000000)
		want(t, "the error of StepOf", e, x.e)
	}
	for _, value := range outsideOf(-1000000, 1000000) {
		s, e := StepOf(exampleRules(), state(1, 1, 1), value)
		refused(t, "StepOf", api.ErrRange, s, e)
	}
}

func event(index, kind, level, version int) api.WarnEvent {
	return api.WarnEvent{Index: index, Kind: kind, Level: level, Version: version}
}

func TestEventsOf(t *testing.T) {
	one := exampleRules()
	one.Hold = 1
	for _, x := range []struct {
		r      api.WarnRules
		values []int
		events []api.WarnEvent
		s      api.WarnState
	}{
		{exampleRules(), nil, nil, state(0, 0, 0)},
		{exampleRules(), []int{49, 10, -5}, nil, state(0, 0, 0)},
		{exampleRules(), []int{30, 55, 45, 39, 41, 39, 38}, []api.WarnEvent{event(1, api.WarnOpened, 1, 1), event(6, api.WarnClosed, 0, 2)}, state(0, 0, 2)},
		{exampleRules(), []int{90, 60, 30}, []api.WarnEvent{event(0, api.WarnOpened, 2, 1), event(2, api.WarnClosed, 0, 2)}, state(0, 0, 2)},
		{exampleRules(), []int{90, 60, 60}, []api.WarnEvent{event(0, api.WarnOpened, 2, 1), event(2, api.WarnLowered, 1, 2)}, state(1, 0, 2)},
		{exampleRules(), []int{50, 79, 80, 39}, []api.WarnEvent{event(0, api.WarnOpened, 1, 1), event(2, api.WarnRaised, 2, 2)}, state(2, 1, 2)},
		{exampleRules(), []int{55, 39}, []api.WarnEvent{event(0, api.WarnOpened, 1, 1)}, state(1, 1, 1)},
		{one, []int{55, 39, 50, 39}, []api.WarnEvent{event(0, api.WarnOpened, 1, 1), event(1, api.WarnClosed, 0, 2), event(2, api.WarnOpened, 1, 3), event(3, api.WarnClosed, 0, 4)}, state(0, 0, 4)},
		{one, []int{80, 64, 80, 64, 39}, []api.WarnEvent{event(0, api.WarnOpened, 2, 1), event(1, api.WarnLowered, 1, 2), event(2, api.WarnRaised, 2, 3), event(3, api.WarnLowered, 1, 4), event(4, api.WarnClosed, 0, 5)}, state(0, 0, 5)},
	} {
		events, e := EventsOf(x.r, x.values)
		want(t, "EventsOf", results(events, e), results(x.events, api.OK))
		s, e := StateOf(x.r, x.values)
		want(t, "StateOf", results(s, e), results(x.s, api.OK))
	}
}

func TestValues(t *testing.T) {
	for _, values := range [][]int{make([]int, 500), manyOf(1000000, 500), manyOf(-1000000, 500)} {
		_, e := StateOf(exampleRules(), values)
		_, o := EventsOf(exampleRules(), values)
		want(t, "values at their limits", results(e, o), results(api.OK, api.OK))
	}
	for _, x := range badValues() {
		s, e := StateOf(exampleRules(), x.values)
		refused(t, "StateOf", x.e, s, e)
		events, e := EventsOf(exampleRules(), x.values)
		refused(t, "EventsOf", x.e, events, e)
	}
}

// kindByDefinition is the kind of an event by the levels before and after it.
func kindByDefinition(before, after int) int {
	kinds := map[[2]bool]int{
		{true, false}:  api.WarnOpened,
		{false, true}:  api.WarnClosed,
		{false, false}: api.WarnLowered,
	}
	if before > 0 && after > before {
		return api.WarnRaised
	}
	return kinds[[2]bool{before == 0, after == 0}]
}

// P8.9

func TestStepByStep(t *testing.T) {
	for _, r := range goodRules() {
		for seed := range 30 {
			values := irregularValues(r, seed)
			var s api.WarnState
			var expected []api.WarnEvent
			for i, value := range values {
				after, e := StepOf(r, s, value)
				want(t, "the error of StepOf", e, api.OK)
				if after.Level != s.Level {
					expected = append(expected, event(i, kindByDefinition(s.Level, after.Level), after.Level, len(expected)+1))
				}
				s = after
			}
			last, e := StateOf(r, values)
			want(t, "StateOf", results(last, e), results(s, api.OK))
			events, e := EventsOf(r, values)
			want(t, "EventsOf", results(events, e), results(expected, api.OK))
			want(t, "the version", last.Version, len(events))
			if len(events) > 0 {
				want(t, "the last level", last.Level, events[len(events)-1].Level)
			}
		}
	}
}

// variationOf returns what the differences of values add up to.
func variationOf(values []int) int {
	sum := 0
	for i := 1; i < len(values); i++ {
		sum += max(values[i]-values[i-1], values[i-1]-values[i])
	}
	return sum
}

// openings returns the indexes of the values that open a warning.
func openings(r api.WarnRules, values []int) []int {
	var indexes []int
	events, _ := EventsOf(r, values)
	for _, x := range events {
		if x.Kind == api.WarnOpened {
			indexes = append(indexes, x.Index)
		}
	}
	return indexes
}

// P8.7

func TestNoFlutter(t *testing.T) {
	reopened := 0
	for _, r := range goodRules() {
		for seed := range 30 {
			values := irregularValues(r, seed)
			opened := openings(r, values)
			for i := 1; i < len(opened); i++ {
				reopened++
				below := 0
				for _, value := range values[opened[i-1]:opened[i]] {
					if value < r.Down[0] {
						below++
					}
				}
				least := 1
				if len(r.Up) == 1 {
					least = r.Hold
				}
				if below < least {
					t.Errorf("%s: %d values below between %d and %d of %v", FormatRules(r), below, opened[i-1], opened[i], values)
				}
			}
			bound, e := OpeningsBound(r, variationOf(values))
			if e != api.OK || len(opened) > bound {
				t.Errorf("%s: opened %d times, at most %d: %v", FormatRules(r), len(opened), bound, values)
			}
		}
	}
	if reopened < 1000 {
		t.Errorf("only %d warnings were opened again", reopened)
	}
}

// Values that go to and fro between Up and just below Down open a warning as often as the bound permits.
func TestBoundIsReached(t *testing.T) {
	for _, r := range goodRules() {
		r.Hold = 1
		values := []int{r.Up[0]}
		for n := 1; n <= 20; n++ {
			bound, _ := OpeningsBound(r, variationOf(values))
			want(t, "the number of openings", results(len(openings(r, values)), bound), results(n, n))
			values = append(values, r.Down[0]-1, r.Up[0])
			if r.Down[0] == -1000000 {
				break
			}
		}
	}
}

// P8.8

func TestNotClosedWhileTheCauseLasts(t *testing.T) {
	for _, r := range goodRules() {
		for seed := range 30 {
			values := irregularValues(r, seed)
			holds := make([]bool, len(r.Up))
			var s api.WarnState
			for _, value := range values {
				s, _ = StepOf(r, s, value)
				for k, up := range r.Up {
					holds[k] = value >= up || holds[k] && value >= r.Down[k]
					if holds[k] && s.Level < k+1 {
						t.Errorf("%s: the level %d after %v", FormatRules(r), s.Level, values)
					}
				}
			}
		}
	}
}

// All sequences of a few values are as by the definition.
func TestAllShortSequences(t *testing.T) {
	values := []int{39, 40, 50, 64, 80}
	for hold := 1; hold <= 3; hold++ {
		r := exampleRules()
		r.Hold = hold
		var follow func(s api.WarnState, before []int)
		follow = func(s api.WarnState, before []int) {
			last, e := StateOf(r, before)
			want(t, "StateOf", results(last, e), results(s, api.OK))
			if len(before) == 5 {
				return
			}
			for _, value := range values {
				follow(stepByDefinition(r, s, value), append(slices.Clone(before), value))
			}
		}
		follow(api.WarnState{}, nil)
	}
}
