package ray

import (
	"slices"
	"strings"
	"testing"

	"skywave/api"
)

// arguments are those of all calls that begin with a sky.
type arguments struct {
	sky       api.RaySky
	task      api.RayTask
	field     api.RayField
	frequency int
	launch    api.Frac
	grid      int
}

// call is a call, and the letters of the arguments whose errors it returns, in the order of these errors.
type call struct {
	name, order string
	run         func(a arguments) []any
}

func goodArguments() arguments {
	return arguments{
		sky:       exampleSky(),
		task:      api.RayTask{Grid: 4, Target: rangeOf(0, 2000000), Frequencies: []int{900}},
		field:     api.RayField{Gyro: 100, Along: rangeOf(-100, 100)},
		frequency: 1000,
		launch:    part(1, 4),
		grid:      4,
	}
}

// callsOfSky are all calls whose errors begin with those of a sky.
func callsOfSky() []call {
	list := func(list ...any) []any { return list }
	return []call{
		{"CriticalOf", "s", func(a arguments) []any { n, e := CriticalOf(a.sky); return list(n, e) }},
		{"IndexesOf", "sf", func(a arguments) []any { l, e := IndexesOf(a.sky, a.frequency); return list(l, e) }},
		{"SinesOf", "sfl", func(a arguments) []any { l, e := SinesOf(a.sky, a.frequency, a.launch); return list(l, e) }},
		{"ApexOf", "sfl", func(a arguments) []any { x, e := ApexOf(a.sky, a.frequency, a.launch); return list(x, e) }},
		{"LegsOf", "sfl", func(a arguments) []any { l, e := LegsOf(a.sky, a.frequency, a.launch); return list(l, e) }},
		{"GroundOf", "sfl", func(a arguments) []any { r, e := GroundOf(a.sky, a.frequency, a.launch); return list(r, e) }},
		{"MirrorHeight", "sfl", func(a arguments) []any { r, e := MirrorHeight(a.sky, a.frequency, a.launch); return list(r, e) }},
		{"SecantOf", "sl", func(a arguments) []any { n, e := SecantOf(a.sky, a.launch); return list(n, e) }},
		{"SkipOf", "sfg", func(a arguments) []any { x, e := SkipOf(a.sky, a.frequency, a.grid); return list(x, e) }},
		{"AnswersFor", "stf", func(a arguments) []any { l, e := AnswersFor(a.sky, a.task, a.frequency); return list(l, e) }},
		{"UsableFor", "st", func(a arguments) []any { u, e := UsableFor(a.sky, a.task); return list(u, e) }},
		{"CheckUsable", "st", func(a arguments) []any {
			return list(CheckUsable(a.sky, a.task, api.RayUsable{Sure: 900, Perhaps: 900}))
		}},
		{"CheckUsable of others", "st", func(a arguments) []any {
			e := CheckUsable(a.sky, a.task, api.RayUsable{Sure: -1, Launch: -1, Perhaps: -2})
			if e == api.ErrMissing {
				e = api.OK // beside valid arguments
			}
			return list(e)
		}},
		{"HopsFor", "stf", func(a arguments) []any { x, e := HopsFor(a.sky, a.task, a.frequency); return list(x, e) }},
		{"IndexSpans", "sfx", func(a arguments) []any { l, e := IndexSpans(a.sky, a.frequency, a.field); return list(l, e) }},
		{"ReflectsWith", "sxfl", func(a arguments) []any {
			n, e := ReflectsWith(a.sky, a.field, api.RayShot{Frequency: a.frequency, Launch: a.launch})
			return list(n, e)
		}},
		{"LaunchOf", "g", func(a arguments) []any { l, e := LaunchOf(a.grid, a.grid/2); return list(l, e) }},
		{"CheckField", "x", func(a arguments) []any { return list(CheckField(a.field)) }},
		{"DistanceOf", "sfl", func(a arguments) []any {
			r, e := DistanceOf(api.RayLink{Up: a.sky, Down: a.sky}, api.RayShot{Frequency: a.frequency, Launch: a.launch})
			return list(r, e)
		}},
	}
}

// spoiled is a change of an argument, and the error that it causes.
type spoiled struct {
	change func(a *arguments)
	e      api.Errno
}

// badArguments returns for each letter of an argument what it may be wrong in.
func badArguments() map[string][]spoiled {
	bad := map[string][]spoiled{}
	add := func(letter string, e api.Errno, change func(a *arguments)) {
		bad[letter] = append(bad[letter], spoiled{change, e})
	}
	for _, x := range badSkies() {
		add("s", x.e, func(a *arguments) { a.sky = x.s })
	}
	for _, x := range badTasks() {
		add("t", x.e, func(a *arguments) { a.task = x.t })
	}
	for _, x := range badFields() {
		add("x", x.e, func(a *arguments) { a.field = x.f })
	}
	for _, x := range badLaunches() {
		add("l", x.e, func(a *arguments) { a.launch = x.launch })
	}
	for _, n := range outsideOf(1, 3000) {
		add("f", api.ErrRange, func(a *arguments) { a.frequency = n })
	}
	for _, n := range outsideOf(1, 100) {
		add("g", api.ErrRange, func(a *arguments) { a.grid = n })
	}
	return bad
}

// P5.1 to P5.6: the errors of arguments.
func TestErrorsOfArguments(t *testing.T) {
	bad := badArguments()
	for _, call := range callsOfSky() {
		got := call.run(goodArguments())
		want(t, call.name, got[len(got)-1], api.OK)
		for letter, list := range bad {
			for _, x := range list {
				a := goodArguments()
				x.change(&a)
				if got := call.run(a); strings.Contains(call.order, letter) {
					refused(t, call.name+" with a bad "+letter, x.e, got...)
				} else {
					want(t, call.name+" with a bad argument that it has not", got[len(got)-1], api.OK)
				}
			}
		}
	}
}

// R1, R9: of the errors of two arguments the first one is returned.
func TestErrorsInOrder(t *testing.T) {
	bad := badArguments()
	for letter, list := range bad {
		slices.SortStableFunc(list, func(a, b spoiled) int { return int(a.e - b.e) })
		bad[letter] = slices.CompactFunc(list, func(a, b spoiled) bool { return a.e == b.e })
	}
	for _, call := range callsOfSky() {
		for i := range len(call.order) {
			for j := range i {
				for _, first := range bad[call.order[j:j+1]] {
					for _, second := range bad[call.order[i:i+1]] {
						a := goodArguments()
						first.change(&a)
						second.change(&a)
						refused(t, call.name+" with two errors", first.e, call.run(a)...)
					}
				}
			}
		}
	}
}

func TestLaunchesThatAreGood(t *testing.T) {
	for den := 1; den <= 100; den++ {
		for num := range den {
			launch, e := LaunchOf(den, num)
			_, sinesError := SinesOf(exampleSky(), 1000, launch)
			_, secantError := SecantOf(exampleSky(), launch)
			want(t, "a launch of a grid", results(e, sinesError, secantError), results(api.OK, api.OK, api.OK))
		}
	}
}

func TestTasksThatAreGood(t *testing.T) {
	for _, x := range []api.RayTask{
		lastTask(),
		{Grid: 1, Target: rangeOf(0, 0), Frequencies: []int{1}},
		{Grid: 1, Target: rangeOf(2000000, 2000000), Frequencies: []int{3000}},
		{Grid: 100, Target: rangeOf(0, 2000000), Frequencies: []int{2999, 3000}},
	} {
		answers, e := AnswersFor(lastSky(), x, 3000)
		want(t, "AnswersFor", results(len(answers), e), results(x.Grid, api.OK))
	}
}
