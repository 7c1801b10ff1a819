package warn

import (
	"iter"

	"skywave/api"
)

// StepOf returns the state after a step with a value.
func StepOf(r api.WarnRules, s api.WarnState, value int) (api.WarnState, api.Errno) {
	c, e := checked(r)
	if e = firstError(e, c.stateError(s), valueError(value)); e != api.OK {
		return api.WarnState{}, e
	}
	return c.stepped(s, value), api.OK
}

// StateOf returns the state after values.
func StateOf(r api.WarnRules, values []int) (api.WarnState, api.Errno) {
	c, e := checked(r)
	if e = firstError(e, valuesError(values)); e != api.OK {
		return api.WarnState{}, e
	}
	var s api.WarnState
	for _, value := range values {
		s = c.stepped(s, value)
	}
	return s, api.OK
}

// EventsOf returns all events of values.
func EventsOf(r api.WarnRules, values []int) ([]api.WarnEvent, api.Errno) {
	c, e := checked(r)
	if e = firstError(e, valuesError(values)); e != api.OK {
		return nil, e
	}
	var events []api.WarnEvent
	level := 0
	for i, s := range c.changes(values) {
		events = append(events, api.WarnEvent{Index: i, Kind: kindOf(level, s.Level), Level: s.Level, Version: s.Version})
		level = s.Level
	}
	return events, api.OK
}

// changes ranges over the values that change the level, by their indexes, and the states after them.
func (r checkedRules) changes(values []int) iter.Seq2[int, api.WarnState] {
	return func(yield func(int, api.WarnState) bool) {
		var s api.WarnState
		for i, value := range values {
			before := s.Level
			s = r.stepped(s, value)
			if s.Level != before && !yield(i, s) {
				return
			}
		}
	}
}

func (r checkedRules) stepped(s api.WarnState, value int) api.WarnState {
	if level := levelOf(r.Up, value); level > s.Level {
		return changedTo(level, s)
	}
	if s.Level == 0 || value >= r.Down[s.Level-1] {
		s.Below = 0
		return s
	}
	s.Below++
	if s.Below < r.Hold {
		return s
	}
	return changedTo(levelOf(r.Down[:s.Level-1], value), s)
}

func changedTo(level int, s api.WarnState) api.WarnState {
	return api.WarnState{Level: level, Version: s.Version + 1}
}

// kindOf returns the kind of the event that changes a level to another one.
func kindOf(before, after int) int {
	switch {
	case before == 0:
		return api.WarnOpened
	case after == 0:
		return api.WarnClosed
	case after > before:
		return api.WarnRaised
	}
	return api.WarnLowered
}

// stateError returns the error of a state that is not the last one.
func (r checkedRules) stateError(s api.WarnState) api.Errno {
	return firstError(
		errorIf(outside(s.Level, 0, len(r.Up)), api.ErrRange),
		errorIf(outside(s.Below, 0, r.Hold-1), api.ErrRange),
		errorIf(outside(s.Version, 0, api.MaxWarnVersion-1), api.ErrRange),
		errorIf(s.Level == 0 && s.Below != 0, api.ErrClash),
	)
}

func valuesError(values []int) api.Errno {
	_, e := firstBad(values, func(_, value int) api.Errno { return valueError(value) })
	return firstError(errorIf(len(values) > api.MaxWarnValues, api.ErrLarge), e)
}
