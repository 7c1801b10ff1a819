package echo

import (
	"slices"
	"testing"

	"skywave/api"
)

// single is the reading of the chapter's second example.
var single = api.EchoReading{Spacing: 8, Phase: 72, Error: 8}

// everyDirection returns all directions.
func everyDirection() []int {
	var list []int
	for d := -90; d <= 90; d++ {
		list = append(list, d)
	}
	return list
}

// candidatesByDefinition finds out for each direction whether it agrees with all readings.
func candidatesByDefinition(l []api.EchoReading) []int {
	return slices.DeleteFunc(everyDirection(), func(d int) bool {
		return slices.ContainsFunc(l, func(r api.EchoReading) bool {
			phase, _ := PhaseOf(r.Spacing, d)
			return phaseDistance(phase, r.Phase) > r.Error
		})
	})
}

// irregularReadings returns lists of readings, of all lengths.
func irregularReadings() [][]api.EchoReading {
	var lists [][]api.EchoReading
	for seed := range 150 {
		next := numbers(seed, 360)
		var list []api.EchoReading
		for range seed % 9 {
			r := api.EchoReading{Spacing: next(), Phase: max(next()+360, 1) - 1, Error: max(next(), 0)}
			if seed%4 == 0 {
				r.Error /= 20
			}
			list = append(list, r)
		}
		lists = append(lists, list)
	}
	return lists
}

// refusedReadings are readings, and the error with which they are refused.
type refusedReadings struct {
	l []api.EchoReading
	e api.Errno
}

// badReadingLists are lists of readings that are refused, each with its error.
func badReadingLists() []refusedReadings {
	list := []refusedReadings{
		{repeated(9, single), api.ErrLarge},
		{repeated(9, api.EchoReading{Phase: -1}), api.ErrLarge},
	}
	for _, r := range badReadings() {
		list = append(list, refusedReadings{[]api.EchoReading{r}, api.ErrRange}, refusedReadings{append(repeated(7, single), r), api.ErrRange})
	}
	return list
}

// contradiction is readings that contradict each other.
var contradiction = []api.EchoReading{single, {Phase: 100, Error: 50}}

// P2.2

func TestCandidates(t *testing.T) {
	for _, x := range []struct {
		l    []api.EchoReading
		list []int
	}{
		{[]api.EchoReading{single}, []int{-82, -81, -80, 8, 9, 10}},
		{[]api.EchoReading{single, {Spacing: 7, Phase: 63, Error: 4}}, []int{9}},
		{[]api.EchoReading{{Spacing: 8, Phase: 72, Error: 7}}, []int{-81, 9}},
		{[]api.EchoReading{{Spacing: 1, Phase: 719, Error: 2}}, []int{-3, -2, -1, 0, 1}},
		{[]api.EchoReading{{Spacing: 1, Phase: 0, Error: 1}}, []int{-1, 0, 1}},
		{[]api.EchoReading{{Spacing: 1, Phase: 90, Error: 1}}, []int{89, 90}},
		{[]api.EchoReading{{Spacing: 1, Phase: 630}}, []int{-90}},
		{[]api.EchoReading{{Spacing: -1, Phase: 630}}, []int{90}},
		{nil, everyDirection()},
		{[]api.EchoReading{{Spacing: 77, Phase: 123, Error: 360}}, everyDirection()},
		{repeated(8, api.EchoReading{Spacing: -360, Phase: 719, Error: 360}), everyDirection()},
		{[]api.EchoReading{{Phase: 50, Error: 50}}, everyDirection()},
		{[]api.EchoReading{{Phase: 670, Error: 50}}, everyDirection()},
	} {
		list, e := Candidates(x.l)
		want(t, "Candidates", results(list, e), results(x.list, api.OK))
	}
}

func TestCandidatesByDefinition(t *testing.T) {
	for _, l := range irregularReadings() {
		expected, expectedError := candidatesByDefinition(l), api.OK
		if len(expected) == 0 {
			expectedError = api.ErrNone
		}
		list, e := Candidates(l)
		want(t, "Candidates", results(list, e), results(expected, expectedError))
	}
}

func TestCandidatesErrors(t *testing.T) {
	for _, x := range badReadingLists() {
		list, e := Candidates(x.l)
		refused(t, "Candidates", x.e, list, e)
	}
	list, e := Candidates(contradiction)
	refused(t, "Candidates of a contradiction", api.ErrNone, list, e)
	list, e = Candidates([]api.EchoReading{{Phase: 50, Error: 49}})
	refused(t, "Candidates with the spacing 0", api.ErrNone, list, e)
}

func TestDirectionsOf(t *testing.T) {
	for _, x := range []struct {
		l    []api.EchoReading
		list []api.Range
	}{
		{[]api.EchoReading{single}, []api.Range{{Lo: -82, Hi: -80}, {Lo: 8, Hi: 10}}},
		{[]api.EchoReading{single, {Spacing: 7, Phase: 63, Error: 4}}, []api.Range{{Lo: 9, Hi: 9}}},
		{nil, []api.Range{{Lo: -90, Hi: 90}}},
		{[]api.EchoReading{{Spacing: 360}}, evenRanges()},
		{[]api.EchoReading{{Spacing: 4, Error: 4}}, []api.Range{{Lo: -1, Hi: 1}}},
		{[]api.EchoReading{{Spacing: 4, Phase: 360, Error: 4}}, []api.Range{{Lo: -90, Hi: -89}, {Lo: 89, Hi: 90}}},
	} {
		list, e := DirectionsOf(x.l)
		want(t, "DirectionsOf", results(list, e), results(x.list, api.OK))
	}
}

// evenRanges returns the ranges of all even directions.
func evenRanges() []api.Range {
	var list []api.Range
	for d := -90; d <= 90; d += 2 {
		list = append(list, api.Range{Lo: d, Hi: d})
	}
	return list
}

func TestDirectionsOfAreCandidates(t *testing.T) {
	for _, l := range irregularReadings() {
		ranges, e := DirectionsOf(l)
		var list []int
		for i, r := range ranges {
			if r.Lo > r.Hi || i > 0 && r.Lo <= ranges[i-1].Hi+1 {
				t.Errorf("DirectionsOf %v: %v", l, ranges)
			}
			for d := r.Lo; d <= r.Hi; d++ {
				list = append(list, d)
			}
		}
		candidates, expected := Candidates(l)
		want(t, "DirectionsOf", results(list, e), results(candidates, expected))
	}
}

func TestDirectionsOfErrors(t *testing.T) {
	for _, x := range badReadingLists() {
		list, e := DirectionsOf(x.l)
		refused(t, "DirectionsOf", x.e, list, e)
	}
	list, e := DirectionsOf(contradiction)
	refused(t, "DirectionsOf a contradiction", api.ErrNone, list, e)
}

func TestContradictingIn(t *testing.T) {
	nine, ten, eleven := api.EchoReading{Spacing: 1, Phase: 9, Error: 1}, api.EchoReading{Spacing: 1, Phase: 10, Error: 1}, api.EchoReading{Spacing: 1, Phase: 11, Error: 1}
	twelve, free := api.EchoReading{Spacing: 1, Phase: 12, Error: 1}, api.EchoReading{Error: 360}
	even, odd := api.EchoReading{Spacing: 360}, api.EchoReading{Spacing: 360, Phase: 360}
	never := api.EchoReading{Phase: 100, Error: 50}
	for _, x := range []struct {
		l   []api.EchoReading
		set []int
	}{
		{contradiction, []int{1}},
		{[]api.EchoReading{never}, []int{0}},
		{[]api.EchoReading{nine, twelve, free, never}, []int{3}},
		{[]api.EchoReading{free, never, never}, []int{1}},
		{[]api.EchoReading{nine, ten, eleven, twelve}, []int{0, 3}},
		{[]api.EchoReading{nine, twelve, nine, twelve}, []int{0, 1}},
		{[]api.EchoReading{free, twelve, twelve, nine, nine}, []int{1, 3}},
		{[]api.EchoReading{free, even, ten, odd, free}, []int{1, 3}},
		// Nine and eleven together leave 10 alone, which is even.
		{[]api.EchoReading{odd, nine, ten, eleven}, []int{0, 1, 3}},
		{[]api.EchoReading{free, odd, nine, free, ten, eleven, nine, eleven}, []int{1, 2, 5}},
		{repeated(8, never), []int{0}},
		{append(repeated(7, nine), twelve), []int{0, 7}},
	} {
		set, e := ContradictingIn(x.l)
		want(t, "ContradictingIn", results(set, e), results(x.set, api.OK))
	}
}

func TestContradictingInByDefinition(t *testing.T) {
	for _, l := range irregularReadings() {
		set, e := ContradictingIn(l)
		if len(candidatesByDefinition(l)) > 0 {
			refused(t, "ContradictingIn", api.ErrNone, set, e)
			continue
		}
		want(t, "ContradictingIn", results(set, e), results(firstContradiction(l), api.OK))
	}
}

// firstContradiction goes through all sets of readings, and keeps the first one of the smallest ones.
func firstContradiction(l []api.EchoReading) []int {
	var best []int
	for bits := range 1 << len(l) {
		var set []int
		var some []api.EchoReading
		for i, r := range l {
			if bits>>i&1 == 1 {
				set, some = append(set, i), append(some, r)
			}
		}
		smaller := best == nil || len(set) < len(best) || len(set) == len(best) && slices.Compare(set, best) < 0
		if smaller && len(candidatesByDefinition(some)) == 0 {
			best = set
		}
	}
	return best
}

func TestContradictingInErrors(t *testing.T) {
	for _, x := range badReadingLists() {
		set, e := ContradictingIn(x.l)
		refused(t, "ContradictingIn", x.e, set, e)
	}
	for _, l := range [][]api.EchoReading{nil, {single}, repeated(8, single)} {
		set, e := ContradictingIn(l)
		refused(t, "ContradictingIn readings that agree", api.ErrNone, set, e)
	}
}

func TestNextSpacing(t *testing.T) {
	l := []api.EchoReading{single}
	for _, x := range []struct {
		l        []api.EchoReading
		spacings []int
		wrong    int
		i, n     int
	}{
		{l, []int{0, 1, 7}, 4, 2, 1},
		{l, []int{0, 1}, 4, 1, 3},
		{l, []int{0, 0}, 4, 0, 6},
		{l, []int{1, 2, 3}, 1, 1, 1},
		{l, []int{1, 2, 3}, 2, 2, 1},
		{l, []int{7, 1, 7}, 4, 0, 1},
		{l, []int{-7, 7}, 0, 0, 1},
		{l, []int{1, -7, 5, 6}, 6, 1, 1},
		{l, []int{8, 9}, 0, 1, 1},
		{l, []int{0, 8}, 0, 1, 2},
		{l, []int{8, 9}, 360, 0, 6},
		{l, repeated(20, 0), 0, 0, 6},
		{l, append(repeated(19, 0), -360), 0, 19, 4},
		{nil, []int{360, 1}, 0, 1, 1},
		{nil, []int{0, 360}, 359, 1, 91},
		{nil, []int{0, 360}, 360, 0, 181},
		{[]api.EchoReading{{Spacing: 1, Error: 1}}, []int{1}, 1, 0, 3},
		{[]api.EchoReading{single, {Spacing: 7, Phase: 63, Error: 4}}, []int{0, 7}, 9, 0, 1},
	} {
		i, n, e := NextSpacing(x.l, x.spacings, x.wrong)
		want(t, "NextSpacing", results(i, n, e), results(x.i, x.n, api.OK))
	}
}

func TestNextSpacingByDefinition(t *testing.T) {
	for seed, l := range irregularReadings() {
		candidates := candidatesByDefinition(l)
		if len(candidates) == 0 || len(candidates) > 60 {
			continue
		}
		next := numbers(seed, 360)
		spacings := []int{next(), next(), next(), next(), next()}
		best, fewest := -1, 0
		for i, spacing := range spacings {
			most := 0
			for _, a := range candidates {
				count := 0
				for _, b := range candidates {
					p, _ := PhaseOf(spacing, a)
					q, _ := PhaseOf(spacing, b)
					if phaseDistance(p, q) <= seed {
						count++
					}
				}
				most = max(most, count)
			}
			if best < 0 || most < fewest {
				best, fewest = i, most
			}
		}
		i, n, e := NextSpacing(l, spacings, seed)
		want(t, "NextSpacing", results(i, n, e), results(best, fewest, api.OK))
	}
}

func TestNextSpacingErrors(t *testing.T) {
	for _, x := range badReadingLists() {
		i, n, e := NextSpacing(x.l, nil, -1)
		refused(t, "NextSpacing of bad readings", x.e, i, n, e)
	}
	i, n, e := NextSpacing(contradiction, nil, -1)
	refused(t, "NextSpacing without spacings", api.ErrShape, i, n, e)
	i, n, e = NextSpacing(contradiction, repeated(21, 361), -1)
	refused(t, "NextSpacing of many spacings", api.ErrLarge, i, n, e)
	for _, spacing := range outsideOf(-360, 360) {
		i, n, e = NextSpacing(contradiction, []int{360, -360, spacing}, 0)
		refused(t, "NextSpacing of a spacing", api.ErrRange, i, n, e)
	}
	for _, wrong := range outsideOf(0, 360) {
		i, n, e = NextSpacing(contradiction, []int{1}, wrong)
		refused(t, "NextSpacing of an error", api.ErrRange, i, n, e)
	}
	for _, wrong := range []int{0, 360} {
		i, n, e = NextSpacing(contradiction, repeated(20, 1), wrong)
		refused(t, "NextSpacing of a contradiction", api.ErrNone, i, n, e)
	}
}

// P2.8

func TestTrueDirectionIsCandidate(t *testing.T) {
	for seed := range 100 {
		next := numbers(seed, 360)
		direction := next() / 4
		var l []api.EchoReading
		before := everyDirection()
		for range 8 {
			spacing, wrong := next(), max(next()/8, 0)
			phase, _ := PhaseOf(spacing, direction)
			shift := max(min(next(), wrong), -wrong)
			l = append(l, api.EchoReading{Spacing: spacing, Phase: (phase + shift + 720) % 720, Error: wrong})
			list, e := Candidates(l)
			if e != api.OK || !slices.Contains(list, direction) {
				t.Fatalf("Candidates %v: %v, %d without %d", l, list, e, direction)
			}
			for _, d := range list {
				if !slices.Contains(before, d) {
					t.Errorf("Candidates %v: %d was added", l, d)
				}
			}
			before = list
		}
	}
}
