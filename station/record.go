package station

import (
	"cmp"
	"maps"
	"slices"

	"skywave/api"
)

// Merged returns the records of both, of each name the one with the greatest version and body.
func Merged(a, b []api.StationRecord) ([]api.StationRecord, api.Errno) {
	if e := firstError(recordsError(a), recordsError(b)); e != api.OK {
		return nil, e
	}
	kept := map[string]api.StationRecord{}
	for _, r := range slices.Concat(a, b) {
		other, known := kept[r.Name]
		if !known || isKeptOver(r, other) {
			kept[r.Name] = r
		}
	}
	if len(kept) > api.MaxStationRecords {
		return nil, api.ErrFull
	}
	byName := func(r, other api.StationRecord) int { return cmp.Compare(r.Name, other.Name) }
	return slices.SortedFunc(maps.Values(kept), byName), api.OK
}

// isKeptOver tells whether a record is kept in place of another one with the same name.
func isKeptOver(r, other api.StationRecord) bool {
	if r.Version != other.Version {
		return r.Version > other.Version
	}
	return r.Body > other.Body
}

func recordsError(l []api.StationRecord) api.Errno {
	_, e := firstBad(l, func(_ int, r api.StationRecord) api.Errno {
		return firstError(
			nameError(r.Name),
			tickError(r.Version),
			errorIf(len(r.Body) > api.MaxStationBody, api.ErrLarge),
		)
	})
	return firstError(errorIf(len(l) > api.MaxStationRecords, api.ErrLarge), e)
}
