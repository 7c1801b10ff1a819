package service

import (
	"fmt"
	"slices"
	"strings"
	"testing"

	"skywave/api"
)

// refusedNet is a net, and the index and the error with which it is refused.
type refusedNet struct {
	what  string
	n     api.ServiceNet
	index int
	e     api.Errno
}

// part is a part of a net that is wrong, and the index and the error with which it is refused.
type part struct {
	what   string
	change func(n *api.ServiceNet)
	index  int
	e      api.Errno
}

// badParts are lists of parts in the order in which they are checked.
func badParts() [][]part {
	return [][]part{badPeople(), badStations(), badCodes(), badEchoes(), badReadings(), badWarnings()}
}

// badNets are nets with one wrong part, and nets with two of which the first one counts.
func badNets() []refusedNet {
	var list []refusedNet
	add := func(x part, changes ...func(n *api.ServiceNet)) {
		n := fourNet()
		for _, change := range changes {
			change(&n)
		}
		list = append(list, refusedNet{start(x.what), n, x.index, x.e})
	}
	all := badParts()
	for i, parts := range all {
		for _, x := range parts {
			add(x, x.change)
			for _, later := range all[i+1:] {
				add(x, later[0].change, x.change)
				add(x, later[len(later)-1].change, x.change)
			}
		}
	}
	return list
}

func badPeople() []part {
	var list []part
	add := func(index int, e api.Errno, people ...api.ServicePerson) {
		what := fmt.Sprint("people ", people)
		list = append(list, part{what, func(n *api.ServiceNet) { n.People = people }, index, e})
	}
	add(0, api.ErrShape)
	var many []api.ServicePerson
	for _, name := range named(8) {
		many = append(many, person(name, api.ServiceMaster))
	}
	add(0, api.ErrLarge, append(many, person("x", 0))...)
	add(0, api.ErrLarge, make([]api.ServicePerson, 9)...)
	add(0, api.ErrLarge, make([]api.ServicePerson, 60000)...)
	ann := person("ann", api.ServiceReader)
	for _, name := range badNames() {
		add(0, api.ErrName, person(name, 0))
		add(0, api.ErrName, person(name, 9), person(name, 9))
		add(1, api.ErrName, ann, person(name, 0), ann)
		add(1, api.ErrName, person("bob", 0), person(name, 0), person(name, 9))
	}
	add(1, api.ErrExists, ann, ann)
	add(1, api.ErrExists, ann, person("ann", 0))
	add(1, api.ErrExists, ann, person("ann", 4))
	add(2, api.ErrExists, ann, person("bob", 0), person("ann", 0), person("", 0))
	add(2, api.ErrExists, ann, person("Ann", 0), person("ann", 0))
	add(7, api.ErrExists, append(slices.Clone(many[:7]), many[6])...)
	for _, role := range outsideOf(0, 3) {
		add(0, api.ErrKind, person("a", role))
		add(1, api.ErrKind, ann, person("a", role), ann)
		add(0, api.ErrKind, person("a", role), person("", 0))
	}
	return list
}

func badStations() []part {
	var list []part
	add := func(index int, e api.Errno, names ...string) {
		what := fmt.Sprintf("stations %q", names)
		list = append(list, part{what, func(n *api.ServiceNet) { n.Stations = names }, index, e})
	}
	add(0, api.ErrShape)
	add(0, api.ErrLarge, named(7)...)
	add(0, api.ErrLarge, make([]string, 7)...)
	add(0, api.ErrLarge, make([]string, 60000)...)
	for _, name := range badNames() {
		add(0, api.ErrName, name)
		add(0, api.ErrName, name, name)
		add(1, api.ErrName, "a", name, "a")
		add(5, api.ErrName, append(named(5), name)...)
	}
	add(1, api.ErrExists, "a", "a")
	add(1, api.ErrExists, "a", "a", "")
	add(2, api.ErrExists, "a", "A", "A")
	add(5, api.ErrExists, append(named(5), "n0000")...)
	return list
}

func badCodes() []part {
	var list []part
	add := func(e api.Errno, c ...int) {
		what := fmt.Sprint("code ", c)
		list = append(list, part{what, func(n *api.ServiceNet) { n.Code = c }, 0, e})
	}
	add(api.ErrShape)
	add(api.ErrLarge, manyOf(1, 33)...)
	add(api.ErrLarge, make([]int, 60000)...)
	add(api.ErrRange, 0)
	add(api.ErrRange, 1, 1, 2)
	add(api.ErrRange, -2, 1)
	return list
}

func badEchoes() []part {
	var list []part
	add := func(e api.Errno, text string) {
		list = append(list, part{"echo " + text, func(n *api.ServiceNet) { n.Echo = text }, 0, e})
	}
	add(api.ErrSyntax, "")
	add(api.ErrSyntax, "0 1 0 -1 2 2 100 5 90")
	add(api.ErrSyntax, "0 1 0 -1 2 2 100 5 90 5 ")
	add(api.ErrSyntax, strings.Repeat("0 ", 60000))
	add(api.ErrZero, "0 1 0 1 2 2 100 5 90 5")
	add(api.ErrRange, "0 11 0 -1 2 2 100 5 90 5")
	add(api.ErrRange, "0 1 0 -1 2 2 100 5 90 -1")
	return list
}

func badReadings() []part {
	var list []part
	add := func(what string, least, most int, change func(r *api.ServiceReading, x int)) {
		for _, x := range outsideOf(least, most) {
			list = append(list, part{fmt.Sprint(what, x), func(n *api.ServiceNet) { change(&n.Reading, x) }, 0, api.ErrRange})
		}
	}
	add("miss ", 0, 1000, func(r *api.ServiceReading, x int) { r.Miss = x })
	add("jump ", 0, 1000, func(r *api.ServiceReading, x int) { r.Jump = x })
	add("limit ", 0, 12, func(r *api.ServiceReading, x int) { r.Limit = x })
	add("base ", 0, 500, func(r *api.ServiceReading, x int) { r.Base = x })
	add("row ", 1, 100, func(r *api.ServiceReading, x int) { r.Row = x })
	return list
}

func badWarnings() []part {
	var list []part
	add := func(index int, e api.Errno, texts ...string) {
		what := fmt.Sprintf("warnings %q", texts)
		list = append(list, part{what, func(n *api.ServiceNet) { n.Warnings = texts }, index, e})
	}
	many := []string{"a 1 2/1", "b 1 2/1", "c 1 2/1", "d 1 2/1", "e 1 2/1"}
	add(0, api.ErrLarge, many...)
	add(0, api.ErrLarge, make([]string, 5)...)
	add(0, api.ErrLarge, make([]string, 60000)...)
	for _, x := range []struct {
		text string
		e    api.Errno
	}{
		{"", api.ErrSyntax},
		{"storm", api.ErrSyntax},
		{"storm 2 50/40 80", api.ErrSyntax},
		{" 2 50/40", api.ErrName},
		{"9 2 50/40", api.ErrName},
		{"storm 2", api.ErrShape},
		{"storm 2 5/1 6/2 7/3 8/4 9/5", api.ErrLarge},
		{"storm 2 40/40", api.ErrForm},
		{"storm 2 50/40 50/45", api.ErrOrder},
		{"storm 0 50/40", api.ErrRange},
		{"storm 2 1000001/40", api.ErrRange},
		{strings.Repeat("x", 60000) + " 2 50/40", api.ErrName},
	} {
		add(0, x.e, x.text)
		add(0, x.e, x.text, x.text)
		add(1, x.e, "fade 2 50/40", x.text, "fade 2 50/40")
		add(3, x.e, append(slices.Clone(many[:3]), x.text)...)
		// The errors of rules come before that of their name.
		add(1, x.e, "storm 2 50/40", x.text)
	}
	add(1, api.ErrExists, "storm 2 50/40", "storm 2 50/40")
	add(1, api.ErrExists, "storm 2 50/40", "storm 1 9/3 12/4", "")
	add(3, api.ErrExists, "a 1 2/1", "b 1 2/1", "A 1 2/1", "b 1 2/1")
	return list
}

// P10.1

func TestCheckNet(t *testing.T) {
	for _, n := range goodNets() {
		i, e := CheckNet(n)
		want(t, "CheckNet", results(i, e), results(0, api.OK))
	}
	for _, x := range badNets() {
		if i, e := CheckNet(x.n); i != x.index || e != x.e {
			t.Errorf("CheckNet with bad %s: %d, %d, want %d, %d", x.what, i, e, x.index, x.e)
		}
	}
	i, e := CheckNet(api.ServiceNet{})
	want(t, "CheckNet of nothing", results(i, e), results(0, api.ErrShape))
}

func TestNumbersOfNetsAtLimits(t *testing.T) {
	for _, x := range []struct{ miss, jump, limit, base, row int }{
		{0, 0, 0, 0, 1}, {1000, 1000, 12, 500, 100}, {1000, 0, 0, 0, 1}, {0, 1000, 0, 0, 1}, {0, 0, 12, 0, 1}, {0, 0, 0, 500, 1}, {0, 0, 0, 0, 100},
	} {
		n := exampleNet()
		n.Reading = api.ServiceReading{Miss: x.miss, Jump: x.jump, Limit: x.limit, Base: x.base, Row: x.row}
		_, e := CheckNet(n)
		want(t, "a reading", e, api.OK)
	}
	for _, name := range goodNames() {
		for role := range 4 {
			n := exampleNet()
			n.People, n.Stations = []api.ServicePerson{person(name, role)}, []string{name}
			n.Warnings = []string{name + " 1 2/1"}
			_, e := CheckNet(n)
			want(t, "CheckNet with the name "+name, e, api.OK)
		}
	}
	// Names of persons, stations and warnings are apart, and so are letters of another case.
	n := exampleNet()
	n.People = []api.ServicePerson{person("a", 0), person("A", 0)}
	n.Stations = []string{"a", "A"}
	n.Warnings = []string{"a 1 2/1", "A 1 2/1"}
	_, e := CheckNet(n)
	want(t, "equal names of different things", e, api.OK)
}

// A net without warnings is valid; its state has none.
func TestNetWithoutWarnings(t *testing.T) {
	n := exampleNet()
	n.Warnings = nil
	s := stateAfter(t, n, nil)
	want(t, "the warnings", len(s.Warnings), 0)
	_, e := CheckLog(n, logOf("ola value storm 5"))
	want(t, "a value", e, api.ErrMissing)
}
