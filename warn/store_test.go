package warn

import (
	"maps"
	"slices"
	"testing"

	"skywave/api"
)

// shelf is a store as a map.
type shelf map[string]api.WarnMessage

func shelfOf(l []api.WarnMessage) shelf {
	s := shelf{}
	for _, m := range l {
		s[m.Warning] = m
	}
	return s
}

// list returns the store of a shelf.
func (s shelf) list() []api.WarnMessage {
	var l []api.WarnMessage
	for _, name := range slices.Sorted(maps.Keys(s)) {
		l = append(l, s[name])
	}
	return l
}

// receive is how a message is received, by the definition, and the errors of it.
func (s shelf) receive(m api.WarnMessage) api.Errno {
	there, known := s[m.Warning]
	switch {
	case known && there.Version == m.Version && there.Level != m.Level:
		return api.ErrClash
	case !known && len(s) >= 30:
		return api.ErrFull
	case !known || m.Version > there.Version:
		s[m.Warning] = m
	}
	return api.OK
}

// P8.4

func TestCheckStore(t *testing.T) {
	for _, l := range goodStores() {
		i, e := CheckStore(l)
		want(t, "CheckStore", results(i, e), results(0, api.OK))
	}
	for _, name := range goodNames() {
		for _, m := range []api.WarnMessage{message(name, 1, 0), message(name, 1000000, 4)} {
			i, e := CheckStore([]api.WarnMessage{m})
			want(t, "CheckStore", results(i, e), results(0, api.OK))
		}
	}
	for _, x := range badStores() {
		i, e := CheckStore(x.l)
		if i != x.index || e != x.e {
			t.Errorf("CheckStore of %v: %d, %d, want %d, %d", x.l[:min(len(x.l), 3)], i, e, x.index, x.e)
		}
	}
}

func TestReceived(t *testing.T) {
	l := messages("a 3 0", "c 2 4")
	for _, x := range []struct {
		m     api.WarnMessage
		store []api.WarnMessage
	}{
		{message("A", 1, 1), messages("A 1 1", "a 3 0", "c 2 4")},
		{message("b", 1, 1), messages("a 3 0", "b 1 1", "c 2 4")},
		{message("d", 1, 1), messages("a 3 0", "c 2 4", "d 1 1")},
		{message("a", 2, 0), l}, // an old version
		{message("a", 2, 1), l},
		{message("a", 3, 0), l},
		{message("a", 4, 0), messages("a 4 0", "c 2 4")},
		{message("a", 4, 1), messages("a 4 1", "c 2 4")},
		{message("c", 1000000, 0), messages("a 3 0", "c 1000000 0")},
	} {
		store, e := Received(l, x.m)
		want(t, "Received", results(store, e), results(x.store, api.OK))
	}
	store, e := Received(nil, message("a", 1, 1))
	want(t, "Received by the empty store", results(store, e), results(messages("a 1 1"), api.OK))
	for _, m := range messages("a 3 1", "a 3 4", "c 2 0") {
		store, e := Received(l, m)
		refused(t, "Received", api.ErrClash, store, e)
	}
	for _, x := range badMessages() {
		store, e := Received(l, x.m)
		refused(t, "Received", x.e, store, e)
	}
}

func TestReceivedByAFullStore(t *testing.T) {
	full := fullStore()
	for _, name := range []string{"a", "n0010-", "z"} {
		store, e := Received(full, message(name, 1, 0))
		refused(t, "Received", api.ErrFull, store, e)
		store, e = Received(full[1:], message(name, 1, 0))
		want(t, "Received as the last one", results(len(store), e), results(30, api.OK))
	}
	for i, m := range full {
		store, e := Received(full, message(m.Warning, m.Version+1, 0))
		expected := slices.Clone(full)
		expected[i] = message(m.Warning, m.Version+1, 0)
		want(t, "Received", results(store, e), results(expected, api.OK))
		store, e = Received(full, m)
		want(t, "Received again", results(store, e), results(full, api.OK))
		store, e = Received(full, message(m.Warning, m.Version, (m.Level+1)%5))
		refused(t, "Received", api.ErrClash, store, e)
	}
}

func TestReceivedByDefinition(t *testing.T) {
	for _, l := range goodStores() {
		for _, name := range append(named(40), "a", "zz", "A") {
			for version := 1; version <= 5; version++ {
				s := shelfOf(l)
				expected := s.receive(message(name, version, 1))
				store, e := Received(l, message(name, version, 1))
				if expected != api.OK {
					refused(t, "Received", expected, store, e)
				} else {
					want(t, "Received", results(store, e), results(s.list(), api.OK))
				}
			}
		}
	}
}

func TestNewestOf(t *testing.T) {
	for _, x := range []struct {
		l, store []api.WarnMessage
	}{
		{nil, nil},
		{messages("a 1 1"), messages("a 1 1")},
		{messages("a 1 1", "b 1 2", "a 3 0", "a 2 1"), messages("a 3 0", "b 1 2")},
		{messages("b 1 1", "a 1 1", "B 1 1"), messages("B 1 1", "a 1 1", "b 1 1")},
		{messages("a 1 1", "a 2 1", "a 1 2"), messages("a 2 1")}, // what is old does not clash
		{manyOf(message("a", 7, 3), 200), messages("a 7 3")},
	} {
		store, i, e := NewestOf(x.l)
		want(t, "NewestOf", results(store, i, e), results(x.store, 0, api.OK))
	}
}

func TestNewestErrors(t *testing.T) {
	for _, l := range [][]api.WarnMessage{manyOf(message("a", 1, 1), 201), make([]api.WarnMessage, 201), make([]api.WarnMessage, 60000)} {
		store, i, e := NewestOf(l)
		want(t, "the index", i, 0)
		refused(t, "NewestOf", api.ErrLarge, store, e)
	}
	good := messages("a 1 1", "b 1 1")
	for _, x := range badMessages() {
		for at := range 3 {
			store, i, e := NewestOf(slices.Insert(slices.Clone(good), at, x.m, message("a", 1, 2)))
			want(t, "the index", i, at)
			refused(t, "NewestOf", x.e, store, e)
		}
	}
	store, i, e := NewestOf(messages("a 1 1", "b 1 1", "a 2 1", "a 2 2", "b 1 2"))
	want(t, "the index", i, 3)
	refused(t, "NewestOf", api.ErrClash, store, e)
	store, i, e = NewestOf(append(fullStore(), messages("n0000 9 1", "z 1 1", "n0000 9 2")...))
	want(t, "the index", i, 31)
	refused(t, "NewestOf", api.ErrFull, store, e)
	store, i, e = NewestOf(append(manyOf(message("a", 1, 1), 199), message("a", 1, 0)))
	want(t, "the index", i, 199)
	refused(t, "NewestOf", api.ErrClash, store, e)
}

// irregularMessages returns valid messages of few warnings and versions; if they are equal, those of the same warning and version are equal.
func irregularMessages(seed int, equal bool) []api.WarnMessage {
	next := numbers(seed + 1700)
	warnings, versions := 1+next(35), 1+next(6)
	var l []api.WarnMessage
	for range next(201) {
		warning, version := next(warnings), 1+next(versions)
		level := (warning + 3*version) % 5
		if !equal && next(20) == 0 {
			level = next(5)
		}
		l = append(l, message(named(35)[warning], version, level))
	}
	return l
}

func TestNewestByDefinition(t *testing.T) {
	refusals := map[api.Errno]int{}
	for seed := range 400 {
		l := irregularMessages(seed, seed%2 == 0)
		s := shelf{}
		index, expected := 0, api.OK
		for i, m := range l {
			if expected = s.receive(m); expected != api.OK {
				index = i
				break
			}
		}
		store, i, e := NewestOf(l)
		refusals[e]++
		want(t, "the index", i, index)
		if expected != api.OK {
			refused(t, "NewestOf", expected, store, e)
		} else {
			want(t, "NewestOf", results(store, e), results(s.list(), api.OK))
		}
	}
	for _, e := range []api.Errno{api.OK, api.ErrClash, api.ErrFull} {
		if refusals[e] < 10 {
			t.Errorf("only %d results with the error %d", refusals[e], e)
		}
	}
}

// P8.10

func TestAnyOrder(t *testing.T) {
	for seed := range 200 {
		l := irregularMessages(seed, true)
		l = l[:min(len(l), 100)]
		expected, _, e := NewestOf(l)
		next := numbers(seed)
		for range 5 {
			mixed := slices.Clone(l)
			for range next(len(l) + 1) {
				mixed = append(mixed, l[next(len(l))])
			}
			for i := range mixed {
				j := next(i + 1)
				mixed[i], mixed[j] = mixed[j], mixed[i]
			}
			store, _, o := NewestOf(mixed)
			want(t, "NewestOf in another order", results(store, o), results(expected, e))
		}
	}
}
