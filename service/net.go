package service

import (
	"slices"

	"skywave/api"
	"skywave/code"
	"skywave/echo"
	"skywave/warn"
)

// CheckNet returns the error of a net, and the index in its slice.
func CheckNet(n api.ServiceNet) (int, api.Errno) {
	parts := [...]func(api.ServiceNet) (int, api.Errno){peopleError, stationsError, readingError, warningsError}
	for _, check := range parts {
		if i, e := check(n); e != api.OK {
			return i, e
		}
	}
	return 0, api.OK
}

// office is a valid net, and what its strings mean.
type office struct {
	api.ServiceNet
	roles  map[string]int // of persons
	wave   []api.Gauss
	echoes api.EchoRules
	topics []string // the names of the warnings
	rules  map[string]api.WarnRules
}

func officeOf(n api.ServiceNet) (office, api.Errno) {
	if _, e := CheckNet(n); e != api.OK {
		return office{}, e
	}
	// A valid net has only strings without errors.
	o := office{ServiceNet: n, roles: map[string]int{}, rules: map[string]api.WarnRules{}}
	o.wave, _ = code.WaveOf(n.Code)
	o.echoes, _ = echo.ParseRules(n.Echo)
	for _, p := range n.People {
		o.roles[p.Name] = p.Role
	}
	for _, text := range n.Warnings {
		r, _ := warn.ParseRules(text)
		o.topics = append(o.topics, r.Name)
		o.rules[r.Name] = r
	}
	return o, api.OK
}

// stationError returns the error of the name of a station.
func (o office) stationError(name string) api.Errno {
	return firstError(nameError(name), errorIf(!o.hasStation(name), api.ErrMissing))
}

func (o office) hasStation(name string) bool {
	return slices.Contains(o.Stations, name)
}

func peopleError(n api.ServiceNet) (int, api.Errno) {
	if e := lengthError(len(n.People), api.MaxServicePeople); e != api.OK {
		return 0, e
	}
	return firstBad(n.People, func(i int, p api.ServicePerson) api.Errno {
		hasName := func(other api.ServicePerson) bool { return other.Name == p.Name }
		return firstError(
			nameError(p.Name),
			errorIf(slices.ContainsFunc(n.People[:i], hasName), api.ErrExists),
			errorIf(outside(p.Role, 0, api.ServiceRoles-1), api.ErrKind),
		)
	})
}

func stationsError(n api.ServiceNet) (int, api.Errno) {
	if e := lengthError(len(n.Stations), api.MaxServiceStations); e != api.OK {
		return 0, e
	}
	return firstBad(n.Stations, func(i int, name string) api.Errno {
		return firstError(
			nameError(name),
			errorIf(slices.Contains(n.Stations[:i], name), api.ErrExists),
		)
	})
}

// readingError returns the error of how soundings and ionograms are read, which concerns no index.
func readingError(n api.ServiceNet) (int, api.Errno) {
	_, e := echo.ParseRules(n.Echo)
	return 0, firstError(
		code.CheckCode(n.Code),
		e,
		rangeError(n.Reading.Miss, 0, api.MaxTracePrice),
		rangeError(n.Reading.Jump, 0, api.MaxTracePrice),
		rangeError(n.Reading.Limit, 0, api.MaxTraceRows),
		rangeError(n.Reading.Base, 0, api.MaxProfileThickness),
		rangeError(n.Reading.Row, 1, api.MaxServiceRow),
	)
}

func warningsError(n api.ServiceNet) (int, api.Errno) {
	if len(n.Warnings) > api.MaxServiceWarnings {
		return 0, api.ErrLarge
	}
	names := map[string]bool{}
	return firstBad(n.Warnings, func(_ int, text string) api.Errno {
		r, e := warn.ParseRules(text)
		known := names[r.Name]
		names[r.Name] = true
		return firstError(e, errorIf(known, api.ErrExists))
	})
}
