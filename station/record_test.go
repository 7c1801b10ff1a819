package station

import (
	"slices"
	"strings"
	"testing"

	"skywave/api"
)

// mergedByDefinition keeps of each name what is greatest.
func mergedByDefinition(a, b []api.StationRecord) []api.StationRecord {
	all := append(slices.Clone(a), b...)
	var kept []api.StationRecord
	for _, r := range all {
		isKept := !slices.Contains(kept, r)
		for _, other := range all {
			if other.Name == r.Name && (other.Version > r.Version || other.Version == r.Version && isLess(r.Body, other.Body)) {
				isKept = false
			}
		}
		if isKept {
			kept = append(kept, r)
		}
	}
	for i := range kept {
		for j := range i {
			if isLess(kept[i].Name, kept[j].Name) {
				kept[i], kept[j] = kept[j], kept[i]
			}
		}
	}
	return kept
}

// isLess compares byte by byte; a string that begins another one is less.
func isLess(a, b string) bool {
	for i := range len(b) {
		if i == len(a) {
			return true
		}
		if a[i] != b[i] {
			return a[i] < b[i]
		}
	}
	return false
}

// P9.5

func TestMerged(t *testing.T) {
	a := []api.StationRecord{record("x", 1, "a"), record("y", 0, "b")}
	b := []api.StationRecord{record("x", 2, ""), record("z", 1, "c")}
	for _, x := range []struct{ a, b, merged []api.StationRecord }{
		{a, b, []api.StationRecord{record("x", 2, ""), record("y", 0, "b"), record("z", 1, "c")}},
		{nil, nil, nil},
		{a, nil, a},
		{nil, a, a},
		{nil, []api.StationRecord{record("b", 0, ""), record("a", 0, "")}, []api.StationRecord{record("a", 0, ""), record("b", 0, "")}},
		{[]api.StationRecord{record("a", 0, ""), record("a", 1, "")}, nil, []api.StationRecord{record("a", 1, "")}},
		{[]api.StationRecord{record("a", 1, ""), record("a", 0, "x")}, nil, []api.StationRecord{record("a", 1, "")}},
		{[]api.StationRecord{record("a", 1, "b")}, []api.StationRecord{record("a", 1, "ab")}, []api.StationRecord{record("a", 1, "b")}},
		{[]api.StationRecord{record("a", 1, "b")}, []api.StationRecord{record("a", 1, "ba")}, []api.StationRecord{record("a", 1, "ba")}},
		{[]api.StationRecord{record("a", 1, "")}, []api.StationRecord{record("a", 1, "\x00")}, []api.StationRecord{record("a", 1, "\x00")}},
		{[]api.StationRecord{record("a", 1, "\xff")}, []api.StationRecord{record("a", 1, "zz")}, []api.StationRecord{record("a", 1, "\xff")}},
		{[]api.StationRecord{record("a", 9, "")}, []api.StationRecord{record("a", 10, "")}, []api.StationRecord{record("a", 10, "")}},
		{[]api.StationRecord{record("a", 1000000000000, "")}, []api.StationRecord{record("a", 999999999999, "b")}, []api.StationRecord{record("a", 1000000000000, "")}},
		{
			[]api.StationRecord{record("a0", 0, ""), record("a", 0, ""), record("aa", 0, "")},
			[]api.StationRecord{record("a-", 0, ""), record("A", 0, ""), record("aA", 0, ""), record("Z", 0, "")},
			[]api.StationRecord{record("A", 0, ""), record("Z", 0, ""), record("a", 0, ""), record("a-", 0, ""), record("a0", 0, ""), record("aA", 0, ""), record("aa", 0, "")},
		},
	} {
		merged, e := Merged(x.a, x.b)
		want(t, "Merged", results(merged, e), results(x.merged, api.OK))
	}
	for _, name := range goodNames() {
		r := []api.StationRecord{record(name, 1000000000000, strings.Repeat("a", 1000))}
		merged, e := Merged(r, r)
		want(t, "Merged of "+name, results(merged, e), results(r, api.OK))
	}
}

func TestMergedIsFull(t *testing.T) {
	var l []api.StationRecord
	for i, name := range named(60) {
		l = append(l, record(name, i, ""))
	}
	for _, x := range []struct {
		a, b []api.StationRecord
		size int
	}{
		{l[:30], nil, 30}, {nil, l[:30], 30}, {l[:30], l[:30], 30}, {l[:15], l[15:30], 30}, {l[:20], l[10:30], 30},
		{l[:30], l[29:31], 0}, {l[:30], l[30:], 0}, {l[:1], l[1:31], 0}, {l[:16], l[15:45], 0},
	} {
		merged, e := Merged(x.a, x.b)
		if x.size == 0 {
			refused(t, "Merged", api.ErrFull, merged, e)
		} else {
			want(t, "Merged", results(merged, e), results(l[:x.size], api.OK))
		}
	}
}

// P9.5 and P9.12

func TestMergedInAnyOrder(t *testing.T) {
	full := 0
	for seed := range 300 {
		a, b, c := irregularRecords(seed, 30), irregularRecords(seed+1, 20), irregularRecords(seed+2, 10)
		ab, e := Merged(a, b)
		ba, o := Merged(b, a)
		want(t, "Merged the other way round", results(ba, o), results(ab, e))
		expected := mergedByDefinition(a, b)
		if len(expected) > 30 {
			full++
			refused(t, "Merged", api.ErrFull, ab, e)
			continue
		}
		want(t, "Merged", results(ab, e), results(expected, api.OK))
		for _, l := range [][]api.StationRecord{a, b, ab} {
			again, e := Merged(ab, l)
			want(t, "Merged again", results(again, e), results(ab, api.OK))
			again, e = Merged(l, ab)
			want(t, "Merged again", results(again, e), results(ab, api.OK))
		}
		bc, o := Merged(b, c)
		if o != api.OK {
			continue
		}
		left, e := Merged(ab, c)
		right, o := Merged(a, bc)
		want(t, "Merged of three", results(right, o), results(left, e))
	}
	if full == 0 || full > 150 {
		t.Errorf("%d of 300 are full", full)
	}
}
