package service

import (
	"slices"
	"testing"

	"skywave/api"
)

// mergedByDefinition appends one entry after the other of what follows the common beginning, as far as the log remains valid.
func mergedByDefinition(n api.ServiceNet, a, b []api.ServiceEntry) ([]api.ServiceEntry, []int) {
	common := 0
	for common < len(a) && common < len(b) && a[common] == b[common] {
		common++
	}
	m, refused := modelOf(n, a), []int{}
	for i, x := range b {
		if i >= common && m.enter(x) != api.OK {
			refused = append(refused, i)
		}
	}
	return m.log, refused
}

// merges checks a merged log.
func merges(t *testing.T, n api.ServiceNet, a, b []api.ServiceEntry) ([]api.ServiceEntry, []int) {
	t.Helper()
	merged, left, e := Merged(n, a, b)
	l, indexes := mergedByDefinition(n, a, b)
	want(t, "Merged", results(merged, left, e), results(l, indexes, api.OK))
	// P10.15
	want(t, "the beginning", merged[:len(a)], a)
	want(t, "all entries", len(merged)+len(left)+commonLength(a, b), len(a)+len(b))
	return merged, left
}

// P10.7

func TestMerged(t *testing.T) {
	n := exampleNet()
	a := []api.ServiceEntry{entry(1, "ola", "note a"), entry(5, "mia", "client d")}
	for _, x := range []struct {
		b        []api.ServiceEntry
		appended []int // the indexes of those that are appended
		refused  []int
	}{
		{nil, nil, nil},
		{a[:1], nil, nil},
		{a, nil, nil},
		{append(slices.Clone(a), entry(5, "ola", "note b"), entry(6, "ola", "note c")), []int{2, 3}, nil},
		{[]api.ServiceEntry{a[0], entry(1, "mia", "client c"), entry(2, "mia", "client d")}, nil, []int{1, 2}},
		{[]api.ServiceEntry{a[0], entry(5, "mia", "client c"), entry(7, "mia", "client d"), entry(8, "mia", "client e")}, []int{1, 3}, []int{2}},
		// An entry that is equal, but after another one, is appended again, or refused.
		{[]api.ServiceEntry{entry(0, "ola", "note x"), a[0], a[1]}, nil, []int{0, 1, 2}},
		{[]api.ServiceEntry{entry(5, "ola", "note x"), entry(5, "ola", "note a")}, []int{0, 1}, nil},
		// Entries that depend on refused ones are refused, too.
		{[]api.ServiceEntry{a[0], entry(2, "mia", "client c"), entry(6, "ola", "subscribe c storm"), entry(7, "ola", "value storm 60")}, []int{3}, []int{1, 2}},
		// Almost equal entries are different.
		{[]api.ServiceEntry{entry(1, "mia", "note a"), entry(5, "mia", "note b")}, []int{1}, []int{0}},
		{[]api.ServiceEntry{entry(5, "ola", "note a"), a[1]}, []int{0}, []int{1}},
		{[]api.ServiceEntry{a[0], entry(5, "mia", "client d1")}, []int{1}, nil},
	} {
		merged, refused := merges(t, n, a, x.b)
		expected := slices.Clone(a)
		for _, i := range x.appended {
			expected = append(expected, x.b[i])
		}
		want(t, "Merged", results(merged, refused), results(expected, append([]int{}, x.refused...)))
	}
}

func TestMergedOfModels(t *testing.T) {
	var logs [][]api.ServiceEntry
	n := fourNet()
	for seed := range 12 {
		l := irregularLog(n, 300+seed, 10+4*seed)
		logs = append(logs, l)
		// Another log with the same beginning.
		m, next := modelOf(n, l[:len(l)/2]), numbers(seed)
		for range 20 {
			m.enter(irregularEntry(m, next, 40+next(40)))
		}
		logs = append(logs, m.log)
	}
	appended, left := 0, 0
	for _, a := range logs {
		for _, b := range logs {
			merged, refused := merges(t, n, a, b)
			appended += len(merged) - len(a)
			left += len(refused)
		}
		// P10.15: a beginning is merged without anything refused, on either side.
		for i := range len(a) + 1 {
			merged, refused := merges(t, n, a, a[:i])
			want(t, "Merged with a beginning", results(merged, refused), results(a, []int{}))
			merged, refused = merges(t, n, a[:i], a)
			want(t, "Merged with a longer log", results(merged, refused), results(a, []int{}))
		}
	}
	if appended < 100 || left < 100 {
		t.Errorf("only %d appended and %d refused entries", appended, left)
	}
}

// A merged log has at most 60 entries.
func TestMergedIsFull(t *testing.T) {
	n := exampleNet()
	a, b := manyOf(entry(1, "ola", "note a"), 58), manyOf(entry(1, "ola", "note b"), 5)
	merged, refused := merges(t, n, a, b)
	want(t, "Merged", results(len(merged), refused), results(60, []int{2, 3, 4}))
	// A refused entry takes no place.
	b[0] = entry(0, "ola", "note b")
	merged, refused = merges(t, n, a, b)
	want(t, "Merged", results(len(merged), refused), results(60, []int{0, 3, 4}))
	full := manyOf(entry(1, "ola", "note a"), 60)
	merged, refused = merges(t, n, full, b)
	want(t, "Merged", results(merged, refused), results(full, []int{0, 1, 2, 3, 4}))
	merged, refused = merges(t, n, full, full)
	want(t, "Merged with itself", results(merged, refused), results(full, []int{}))
	merged, refused = merges(t, n, nil, full)
	want(t, "Merged of nothing", results(merged, refused), results(full, []int{}))
}

// An entry that is refused changes nothing, whatever its text is.
func TestRefusedEntriesChangeNothing(t *testing.T) {
	for i, n := range goodNets() {
		for seed := range 30 {
			l := irregularLog(n, 500*i+seed, 40)
			b, _, e := bookOf(n, l)
			want(t, "the error of a log", e, api.OK)
			before := results(b.state(), b.log, b.products)
			m, next := modelOf(n, l), numbers(seed)
			for range 30 {
				x := irregularEntry(m, next, 1000)
				if b.enter(x) == api.OK {
					b, _, _ = bookOf(n, l)
					continue
				}
				want(t, "the book after "+x.Text, results(b.state(), b.log, b.products), before)
			}
		}
	}
}
