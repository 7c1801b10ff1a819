package forecast

import (
	"slices"
	"strings"
	"testing"

	"skywave/api"
)

// arguments are those of all calls that return errors.
type arguments struct {
	records            []api.ForecastRecord
	query              api.ForecastQuery
	share, month, hour int
	frequencies        []int
	table              api.ForecastTable
	schedule           []int
	apart              []api.Range
	rule               api.ForecastRule
	usable             api.Range
	activity           int
	reports            []api.ForecastReport
	weight             int
	text               string
}

// call is a call, and the letters of the arguments whose errors it returns, in the order of these errors.
type call struct {
	name, order string
	run         func(a arguments) []any
}

func goodArguments() arguments {
	return arguments{
		records:     exampleRecords(),
		query:       query(3, 12, 0, 9, 700),
		share:       500,
		month:       3,
		hour:        12,
		frequencies: []int{300, 700},
		table:       exampleDay(),
		schedule:    hoursOf("00000000001"),
		apart:       ranges(9, 10),
		rule:        rule(3, 50, 100),
		usable:      rangeOf(400, 800),
		activity:    5,
		reports:     []api.ForecastReport{report(12, 0, true, 2), report(13, 1, false, 3)},
		weight:      3,
		text:        "2001 3 12 2 300 900",
	}
}

// allCalls are all calls that return errors.
func allCalls() []call {
	list := func(list ...any) []any { return list }
	return []call{
		{"CheckRecords", "l", func(a arguments) []any { _, e := CheckRecords(a.records); return list(e) }},
		{"CountOf", "lq", func(a arguments) []any { c, e := CountOf(a.records, a.query); return list(c, e) }},
		{"ChanceOf", "lq", func(a arguments) []any { f, e := ChanceOf(a.records, a.query); return list(f, e) }},
		{"TableOf", "lmf", func(a arguments) []any { l, e := TableOf(a.records, a.month, a.frequencies); return list(l, e) }},
		{"QuantileOf", "lqs", func(a arguments) []any { n, e := QuantileOf(a.records, a.query, a.share); return list(n, e) }},
		{"WindowsOf", "lqs", func(a arguments) []any { l, e := WindowsOf(a.records, a.query, a.share); return list(l, e) }},
		{"CheckTable", "t", func(a arguments) []any { _, e := CheckTable(a.table); return list(e) }},
		{"BestAt", "th", func(a arguments) []any { n, e := BestAt(a.table, a.hour); return list(n, e) }},
		{"UsableAt", "ths", func(a arguments) []any { l, e := UsableAt(a.table, a.hour, a.share); return list(l, e) }},
		{"ScheduleOf", "ts", func(a arguments) []any { l, e := ScheduleOf(a.table, a.share); return list(l, e) }},
		{"ChangesOf", "tsc", func(a arguments) []any { n, e := ChangesOf(a.table, a.share, a.schedule); return list(n, e) }},
		{"CheckApart", "tsa", func(a arguments) []any { _, e := CheckApart(a.table, a.share, a.apart); return list(e) }},
		{"ApartOf", "ts", func(a arguments) []any { l, e := ApartOf(a.table, a.share); return list(l, e) }},
		{"CheckRule", "r", func(a arguments) []any { return list(CheckRule(a.rule)) }},
		{"MovedBy", "ruv", func(a arguments) []any { r, e := MovedBy(a.rule, a.usable, a.activity); return list(r, e) }},
		{"Blended", "tRw", func(a arguments) []any { x, e := Blended(a.table, a.reports, a.weight); return list(x, e) }},
		{"CalibrationOf", "tR", func(a arguments) []any { x, e := CalibrationOf(a.table, a.reports); return list(x, e) }},
		{"ScoreOf", "tR", func(a arguments) []any { f, e := ScoreOf(a.table, a.reports); return list(f, e) }},
		{"ParseRecord", "T", func(a arguments) []any { x, e := ParseRecord(a.text); return list(x, e) }},
	}
}

// spoiled is a change of an argument, and the error that it causes.
type spoiled struct {
	change func(a *arguments)
	e      api.Errno
}

// badArguments returns for each letter of an argument what it may be wrong in.
func badArguments() map[string][]spoiled {
	bad := map[string][]spoiled{}
	add := func(letter string, e api.Errno, change func(a *arguments)) {
		bad[letter] = append(bad[letter], spoiled{change, e})
	}
	for _, x := range badRecords() {
		add("l", x.e, func(a *arguments) { a.records = x.l })
	}
	for _, x := range badQueries() {
		add("q", x.e, func(a *arguments) { a.query = x.q })
	}
	for _, x := range badFrequencies() {
		add("f", x.e, func(a *arguments) { a.frequencies = x.frequencies })
	}
	for _, x := range badTables() {
		add("t", x.e, func(a *arguments) { a.table = x.t })
	}
	for _, x := range badReports() {
		add("R", x.e, func(a *arguments) { a.reports = x.l })
	}
	for _, r := range badRules() {
		add("r", api.ErrRange, func(a *arguments) { a.rule = r })
	}
	for _, x := range badUsable() {
		add("u", x.e, func(a *arguments) { a.usable = x.r })
	}
	add("c", api.ErrShape, func(a *arguments) { a.schedule = a.schedule[1:] })
	add("c", api.ErrMissing, func(a *arguments) { a.schedule[5] = 2 })
	add("c", api.ErrRefused, func(a *arguments) { a.schedule[5] = 1 })
	add("a", api.ErrLarge, func(a *arguments) { a.apart = make([]api.Range, 24) })
	add("a", api.ErrRange, func(a *arguments) { a.apart = ranges(9, 24) })
	add("a", api.ErrOrder, func(a *arguments) { a.apart = ranges(9, 9) })
	add("a", api.ErrClash, func(a *arguments) { a.apart = ranges(8, 9) })
	add("T", api.ErrSyntax, func(a *arguments) { a.text = "2001 3 12 2 300" })
	addNumbers(add)
	return bad
}

func addNumbers(add func(letter string, e api.Errno, change func(a *arguments))) {
	for _, x := range []struct {
		letter      string
		least, most int
		place       func(a *arguments) *int
	}{
		{"s", 1, 1000, func(a *arguments) *int { return &a.share }},
		{"m", 1, 12, func(a *arguments) *int { return &a.month }},
		{"h", 0, 23, func(a *arguments) *int { return &a.hour }},
		{"v", 0, 9, func(a *arguments) *int { return &a.activity }},
		{"w", 1, 10, func(a *arguments) *int { return &a.weight }},
	} {
		for _, n := range outsideOf(x.least, x.most) {
			add(x.letter, api.ErrRange, func(a *arguments) { *x.place(a) = n })
		}
	}
}

// P7.1 to P7.7: the errors of arguments.
func TestErrorsOfArguments(t *testing.T) {
	bad := badArguments()
	for _, call := range allCalls() {
		got := call.run(goodArguments())
		want(t, call.name, got[len(got)-1], api.OK)
		for letter, list := range bad {
			for _, x := range list {
				a := goodArguments()
				x.change(&a)
				if got := call.run(a); strings.Contains(call.order, letter) {
					refused(t, call.name+" with a bad "+letter, x.e, got...)
				} else {
					want(t, call.name+" with a bad argument that it has not", got[len(got)-1], api.OK)
				}
			}
		}
	}
}

// R1, R9: of the errors of two arguments the first one is returned.
func TestErrorsInOrder(t *testing.T) {
	bad := badArguments()
	for letter, list := range bad {
		slices.SortStableFunc(list, func(a, b spoiled) int { return int(a.e - b.e) })
		bad[letter] = slices.CompactFunc(list, func(a, b spoiled) bool { return a.e == b.e })
	}
	for _, call := range allCalls() {
		for i := range len(call.order) {
			for j := range i {
				for _, first := range bad[call.order[j:j+1]] {
					for _, second := range bad[call.order[i:i+1]] {
						a := goodArguments()
						second.change(&a)
						first.change(&a)
						refused(t, call.name+" with two errors", first.e, call.run(a)...)
					}
				}
			}
		}
	}
}

// The errors of all arguments come before those of results.
func TestErrorsOfResultsAreLast(t *testing.T) {
	for _, x := range badArguments()["s"] {
		a := goodArguments()
		x.change(&a)
		schedule, e := ScheduleOf(pattern("-"), a.share)
		refused(t, "ScheduleOf", api.ErrRange, schedule, e)
		apart, e := ApartOf(pattern("-"), a.share)
		refused(t, "ApartOf", api.ErrRange, apart, e)
	}
	for _, hour := range outsideOf(0, 23) {
		n, e := BestAt(pattern("?"), hour)
		refused(t, "BestAt", api.ErrRange, n, e)
	}
	for _, weight := range outsideOf(1, 10) {
		x, e := Blended(lastTable(), []api.ForecastReport{report(0, 0, true, 10)}, weight)
		refused(t, "Blended", api.ErrRange, x, e)
	}
}

// Numbers at their limits are not refused.
func TestNumbersAtLimits(t *testing.T) {
	for _, share := range []int{1, 1000} {
		_, e := QuantileOf(exampleRecords(), query(3, 12, 0, 9, 0), share)
		_, o := WindowsOf(exampleRecords(), query(3, 12, 0, 9, 3000), share)
		_, u := UsableAt(lastTable(), 0, share)
		_, s := ScheduleOf(tableWith(1, func(_, _ int) api.ForecastCount { return count(1, 1) }), share)
		want(t, "a share", results(e, o, u, s), results(api.OK, api.OK, api.OK, api.OK))
	}
	for _, month := range []int{1, 12} {
		_, e := TableOf(lastRecords(), month, lastTable().Frequencies)
		_, o := CountOf(lastRecords(), query(month, 0, 0, 0, 0))
		want(t, "a month", results(e, o), results(api.OK, api.OK))
	}
	for _, hour := range []int{0, 23} {
		_, e := BestAt(lastTable(), hour)
		_, o := CountOf(lastRecords(), query(1, hour, 9, 9, 3000))
		_, b := Blended(pattern("?????"), []api.ForecastReport{report(hour, 0, true, 1), report(hour, 4, true, 1)}, 1)
		want(t, "an hour", results(e, o, b), results(api.OK, api.OK, api.OK))
	}
	for _, activity := range []int{0, 9} {
		_, e := MovedBy(rule(activity, 1000, 1000), rangeOf(0, 3000), activity)
		want(t, "an activity", e, api.OK)
	}
	for _, weight := range []int{1, 10} {
		_, e := Blended(exampleTable(), []api.ForecastReport{report(0, 1, true, weight)}, weight)
		_, o := Blended(exampleTable(), lastReports(), 1)
		want(t, "a weight", results(e, o), results(api.OK, api.OK))
	}
}
