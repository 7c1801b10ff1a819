package warn

import (
	"slices"
	"testing"

	"skywave/api"
)

// model is a link whose stores are maps.
type model struct {
	box, store shelf
	wire       []api.WarnPacket
}

func modelOf(x api.WarnLink) model {
	return model{shelfOf(x.Box), shelfOf(x.Store), slices.Clone(x.Wire)}
}

func (x model) link() api.WarnLink {
	return api.WarnLink{Box: x.box.list(), Wire: x.wire, Store: x.store.list()}
}

// move makes a valid move as the chapter's table says, or returns its error, after which the model is not used.
func (x *model) move(m api.WarnMove) api.Errno {
	switch m.Kind {
	case api.WarnPut:
		return x.box.receive(m.Message)
	case api.WarnSend:
		box := x.box.list()
		if m.Index < 0 || m.Index >= len(box) {
			return api.ErrMissing
		}
		x.wire = append(x.wire, sent(box[m.Index]))
	default:
		if m.Index < 0 || m.Index >= len(x.wire) {
			return api.ErrMissing
		}
		p := x.wire[m.Index]
		if m.Kind == api.WarnCopy {
			x.wire = append(x.wire, p)
			break
		}
		x.wire = append(slices.Clone(x.wire[:m.Index]), x.wire[m.Index+1:]...)
		if m.Kind == api.WarnLose {
			break
		}
		if !p.Ack {
			if e := x.store.receive(p.Message); e != api.OK {
				return e
			}
			x.wire = append(x.wire, acknowledged(p.Message))
		} else if there, known := x.box[p.Message.Warning]; known && there.Version <= p.Message.Version {
			delete(x.box, p.Message.Warning)
		}
	}
	if len(x.wire) > 60 {
		return api.ErrFull
	}
	return api.OK
}

// P8.5

func TestCheckLink(t *testing.T) {
	for _, x := range goodLinks() {
		want(t, "CheckLink", CheckLink(x), api.OK)
	}
	for _, x := range badLinks() {
		want(t, "CheckLink", CheckLink(x.x), x.e)
	}
}

func TestMoved(t *testing.T) {
	for _, x := range []struct {
		m     api.WarnMove
		after api.WarnLink
	}{
		{put(message("aa", 1, 0)), api.WarnLink{Box: messages("a 2 2", "aa 1 0", "b 1 1"), Wire: exampleLink().Wire, Store: exampleLink().Store}},
		{put(message("a", 3, 0)), api.WarnLink{Box: messages("a 3 0", "b 1 1"), Wire: exampleLink().Wire, Store: exampleLink().Store}},
		{put(message("a", 2, 2)), exampleLink()},
		{put(message("a", 1, 4)), exampleLink()},
		{send(0), api.WarnLink{Box: exampleLink().Box, Wire: append(exampleLink().Wire, sent(message("a", 2, 2))), Store: exampleLink().Store}},
		{send(1), api.WarnLink{Box: exampleLink().Box, Wire: append(exampleLink().Wire, sent(message("b", 1, 1))), Store: exampleLink().Store}},
		{lose(0), api.WarnLink{Box: exampleLink().Box, Wire: exampleLink().Wire[1:], Store: exampleLink().Store}},
		{lose(2), api.WarnLink{Box: exampleLink().Box, Wire: exampleLink().Wire[:2], Store: exampleLink().Store}},
		{double(0), api.WarnLink{Box: exampleLink().Box, Wire: append(exampleLink().Wire, exampleLink().Wire[0]), Store: exampleLink().Store}},
		{double(1), api.WarnLink{Box: exampleLink().Box, Wire: append(exampleLink().Wire, exampleLink().Wire[1]), Store: exampleLink().Store}},
		{take(0), api.WarnLink{Box: exampleLink().Box, Wire: append(exampleLink().Wire[1:], acknowledged(message("a", 1, 1))), Store: exampleLink().Store}},
		{take(1), api.WarnLink{Box: messages("a 2 2"), Wire: []api.WarnPacket{exampleLink().Wire[0], exampleLink().Wire[2]}, Store: exampleLink().Store}},
		{take(2), api.WarnLink{Box: exampleLink().Box, Wire: append(exampleLink().Wire[:2], acknowledged(message("c", 5, 0))), Store: messages("a 1 1", "c 5 0", "d 9 4")}},
	} {
		after, e := Moved(exampleLink(), x.m)
		want(t, "Moved", results(after, e), results(x.after, api.OK))
	}
	for _, x := range badMoves() {
		after, e := Moved(exampleLink(), x.m)
		refused(t, "Moved", x.e, after, e)
	}
}

// An acknowledgement removes a message that is not newer; it may be of something that was never sent.
func TestAcknowledgements(t *testing.T) {
	for _, x := range []struct {
		m   api.WarnMessage
		box []api.WarnMessage
	}{
		{message("a", 1, 2), messages("a 2 2", "b 1 1")},
		{message("a", 2, 2), messages("b 1 1")},
		{message("a", 2, 0), messages("b 1 1")}, // the level does not matter
		{message("a", 3, 2), messages("b 1 1")},
		{message("b", 1000000, 2), messages("a 2 2")},
		{message("A", 9, 1), messages("a 2 2", "b 1 1")},
		{message("aa", 9, 1), messages("a 2 2", "b 1 1")},
		{message("z", 9, 1), messages("a 2 2", "b 1 1")},
	} {
		link := api.WarnLink{Box: messages("a 2 2", "b 1 1"), Wire: []api.WarnPacket{acknowledged(x.m)}}
		after, e := Moved(link, take(0))
		want(t, "Moved", results(after, e), results(api.WarnLink{Box: x.box}, api.OK))
	}
	link := api.WarnLink{Wire: []api.WarnPacket{acknowledged(message("a", 1, 1))}}
	after, e := Moved(link, take(0))
	want(t, "Moved with an empty box", results(after, e), results(api.WarnLink{}, api.OK))
}

// What a box, a store or a wire cannot hold is refused.
func TestMovesWithoutPlace(t *testing.T) {
	full := api.WarnLink{Box: fullStore(), Wire: fullWire(), Store: fullStore()}
	full.Store[1].Level = 3
	for _, x := range []struct {
		m api.WarnMove
		e api.Errno
	}{
		{put(message("a", 1, 1)), api.ErrFull},
		{put(message("n0001", 2, 0)), api.ErrClash},
		{put(message("n0001", 3, 0)), api.OK},
		{send(0), api.ErrFull},
		{send(29), api.ErrFull},
		{send(30), api.ErrMissing},
		{double(0), api.ErrFull},
		{double(59), api.ErrFull},
		{double(60), api.ErrMissing},
		{lose(0), api.OK},
		{lose(59), api.OK},
		{lose(60), api.ErrMissing},
		{take(0), api.OK},       // an acknowledgement of a message of the box
		{take(1), api.ErrClash}, // the same version with another level
		{take(29), api.OK},      // older than in the store; its acknowledgement takes its place
		{take(31), api.ErrFull}, // of a warning that the store does not have
		{take(33), api.OK},      // an acknowledgement of something that the box does not have
		{take(41), api.OK},      // newer than in the store; its acknowledgement takes its place
		{take(59), api.OK},
		{take(60), api.ErrMissing},
	} {
		after, e := Moved(full, x.m)
		if x.e != api.OK {
			refused(t, "Moved", x.e, after, e)
		} else {
			want(t, "the error of Moved", e, api.OK)
		}
	}
	full.Wire = full.Wire[1:]
	for _, m := range []api.WarnMove{send(0), double(0)} {
		after, e := Moved(full, m)
		want(t, "the last packet", results(len(after.Wire), e), results(60, api.OK))
	}
}

// The chapter's example 7, move by move.
func TestMovesOfTheExample(t *testing.T) {
	moves := []api.WarnMove{put(message("a", 1, 1)), send(0), put(message("a", 2, 2)), take(0), take(0), send(0), take(0), take(0)}
	links := []api.WarnLink{
		{},
		{Box: messages("a 1 1")},
		{Box: messages("a 1 1"), Wire: []api.WarnPacket{sent(message("a", 1, 1))}},
		{Box: messages("a 2 2"), Wire: []api.WarnPacket{sent(message("a", 1, 1))}},
		{Box: messages("a 2 2"), Wire: []api.WarnPacket{acknowledged(message("a", 1, 1))}, Store: messages("a 1 1")},
		{Box: messages("a 2 2"), Store: messages("a 1 1")},
		{Box: messages("a 2 2"), Wire: []api.WarnPacket{sent(message("a", 2, 2))}, Store: messages("a 1 1")},
		{Box: messages("a 2 2"), Wire: []api.WarnPacket{acknowledged(message("a", 2, 2))}, Store: messages("a 2 2")},
		{Store: messages("a 2 2")},
	}
	for i, link := range links {
		after, at, e := RunOf(api.WarnLink{}, moves[:i])
		want(t, "RunOf", results(after, at, e), results(link, 0, api.OK))
		pending, e := PendingIn(link)
		isPending := i > 0 && i < 7
		want(t, "whether something is pending", results(len(pending) == 1, e), results(isPending, api.OK))
	}
}

func TestRunErrors(t *testing.T) {
	for _, moves := range [][]api.WarnMove{manyOf(lose(0), 201), make([]api.WarnMove, 201), make([]api.WarnMove, 60000)} {
		after, i, e := RunOf(exampleLink(), moves)
		want(t, "the index", i, 0)
		refused(t, "RunOf", api.ErrLarge, after, e)
	}
	for _, x := range badLinks() {
		after, i, e := RunOf(x.x, nil)
		want(t, "the index", i, 0)
		refused(t, "RunOf", x.e, after, e)
	}
	stay := put(message("a", 1, 1))
	for _, x := range badMoves() {
		for _, at := range []int{0, 1, 7, 199} {
			moves := append(manyOf(stay, at), x.m)
			if at < 199 {
				moves = append(moves, api.WarnMove{Kind: -1})
			}
			after, i, e := RunOf(exampleLink(), moves)
			want(t, "the index", i, at)
			refused(t, "RunOf", x.e, after, e)
		}
	}
	after, i, e := RunOf(exampleLink(), manyOf(stay, 200))
	want(t, "RunOf as many moves as there may be", results(after, i, e), results(exampleLink(), 0, api.OK))
	after, i, e = RunOf(exampleLink(), nil)
	want(t, "RunOf no moves", results(after, i, e), results(exampleLink(), 0, api.OK))
	after, i, e = RunOf(exampleLink(), []api.WarnMove{take(2), lose(0), lose(0), lose(0), lose(0)})
	want(t, "the index", i, 4)
	refused(t, "RunOf", api.ErrMissing, after, e)
}

// irregularMove returns a move that is mostly possible.
func irregularMove(next func(size int) int, x api.WarnLink, warnings int) api.WarnMove {
	m := api.WarnMove{Kind: next(api.WarnMoves)}
	switch m.Kind {
	case api.WarnPut:
		warning, version := next(warnings), 1+next(6)
		m.Message = message(named(warnings)[warning], version, (warning+version)%5)
		if next(10) == 0 {
			m.Message.Level = next(5)
		}
	case api.WarnSend:
		m.Index = next(len(x.Box) + 1)
	default:
		m.Index = next(len(x.Wire) + 1)
	}
	return m
}

func TestMovesByDefinition(t *testing.T) {
	errors := map[api.Errno]int{}
	for seed, x := range goodLinks() {
		next := numbers(seed + 2300)
		warnings := 1 + next(40)
		var moves []api.WarnMove
		begin := x
		for range 60 {
			m := irregularMove(next, x, warnings)
			expected := modelOf(x)
			e := expected.move(m)
			errors[e]++
			after, o := Moved(x, m)
			if e != api.OK {
				refused(t, "Moved", e, after, o)
				failed, i, o := RunOf(begin, append(slices.Clone(moves), m))
				want(t, "the index", i, len(moves))
				refused(t, "RunOf", e, failed, o)
				continue
			}
			want(t, "Moved", results(after, o), results(expected.link(), api.OK))
			x = after
			moves = append(moves, m)
			want(t, "CheckLink after a move", CheckLink(x), api.OK)
		}
		run, i, e := RunOf(begin, moves)
		want(t, "RunOf", results(run, i, e), results(x, 0, api.OK))
	}
	for _, e := range []api.Errno{api.OK, api.ErrMissing, api.ErrClash, api.ErrFull} {
		if errors[e] < 50 {
			t.Errorf("only %d moves with the error %d", errors[e], e)
		}
	}
}

func TestPendingIn(t *testing.T) {
	for _, x := range []struct {
		box, store []api.WarnMessage
		names      []string
	}{
		{nil, nil, nil},
		{nil, messages("a 1 1"), nil},
		{messages("a 1 1"), nil, []string{"a"}},
		{messages("a 1 1"), messages("a 1 1"), nil},
		{messages("a 1 1"), messages("a 1 2"), nil},
		{messages("a 1 1"), messages("a 2 1"), nil},
		{messages("a 2 1"), messages("a 1 1"), []string{"a"}},
		{messages("a 2 1"), messages("A 2 1", "aa 2 1"), []string{"a"}},
		{messages("B 2 1", "a 2 1", "c 2 1", "d 1 1"), messages("a 3 1", "c 1 1"), []string{"B", "c", "d"}},
	} {
		for _, wire := range [][]api.WarnPacket{nil, {sent(message("a", 9, 1))}, {acknowledged(message("a", 9, 1))}} {
			names, e := PendingIn(api.WarnLink{Box: x.box, Wire: wire, Store: x.store})
			want(t, "PendingIn", results(names, e), results(x.names, api.OK))
		}
	}
	for _, x := range goodLinks() {
		var expected []string
		store := shelfOf(x.Store)
		for _, m := range x.Box {
			if there, known := store[m.Warning]; !known || there.Version < m.Version {
				expected = append(expected, m.Warning)
			}
		}
		names, e := PendingIn(x)
		want(t, "PendingIn", results(names, e), results(expected, api.OK))
	}
}

// P8.11

func TestNothingLost(t *testing.T) {
	for seed := range 60 {
		next := numbers(seed + 2700)
		warnings := 1 + next(6)
		var x api.WarnLink
		newest := map[string]int{}
		for range 200 {
			m := irregularMove(next, x, warnings)
			after, e := Moved(x, m)
			if e != api.OK {
				continue
			}
			x = after
			if m.Kind == api.WarnPut {
				newest[m.Message.Warning] = max(newest[m.Message.Warning], m.Message.Version)
			}
			box, store := shelfOf(x.Box), shelfOf(x.Store)
			pending, _ := PendingIn(x)
			for warning, version := range newest {
				if box[warning].Version < version && store[warning].Version < version {
					t.Errorf("%s %d is neither in the box nor in the store: %v", warning, version, x)
				}
				if !slices.Contains(pending, warning) && store[warning].Version < version {
					t.Errorf("%s is old and not pending: %v", warning, x)
				}
			}
		}
	}
}

// P8.5 and P8.12

func TestFlushOf(t *testing.T) {
	flushed := map[bool]int{}
	links := goodLinks()
	for _, x := range goodLinks() {
		// Without clashes.
		for i := range x.Box {
			x.Box[i].Level = 1
		}
		for i := range x.Store {
			x.Store[i].Level = 1
		}
		x.Store = x.Store[:len(x.Store)/2]
		links = append(links, x)
	}
	for _, x := range links {
		store := shelfOf(x.Store)
		possible := true
		for _, m := range x.Box {
			possible = possible && store.receive(m) == api.OK
		}
		flushed[possible]++
		moves, e := FlushOf(x)
		if !possible {
			refused(t, "FlushOf", api.ErrNone, moves, e)
			continue
		}
		want(t, "the error of FlushOf", e, api.OK)
		checkFlush(t, x, moves)
	}
	if flushed[true] < 50 || flushed[false] < 50 {
		t.Errorf("too few links: %v", flushed)
	}
}

// checkFlush makes moves that were found for a link one after the other.
func checkFlush(t *testing.T, x api.WarnLink, moves []api.WarnMove) {
	t.Helper()
	if len(moves) > 200 {
		t.Errorf("%d moves", len(moves))
	}
	after := x
	for i, m := range moves {
		var e api.Errno
		after, e = Moved(after, m)
		if e != api.OK || m.Kind == api.WarnPut {
			t.Fatalf("the move %d, %v, of the flush of %v: %d", i, m, x, e)
		}
	}
	run, i, e := RunOf(x, moves)
	want(t, "RunOf", results(run, i, e), results(after, 0, api.OK))
	want(t, "what is in the box", len(after.Box), 0)
	store := shelfOf(after.Store)
	for _, m := range x.Box {
		if store[m.Warning].Version < m.Version {
			t.Errorf("the store has %v, not %v", store[m.Warning], m)
		}
	}
	pending, e := PendingIn(after)
	want(t, "PendingIn", results(len(pending), e), results(0, api.OK))
}

func TestFlushOfSomeLinks(t *testing.T) {
	for _, x := range []api.WarnLink{
		{},
		{Wire: fullWire(), Store: fullStore()}, // nothing to do
		{Box: messages("a 1 1")},
		{Box: messages("a 1 1"), Store: messages("a 1 1")},
		{Box: messages("a 1 1"), Store: messages("a 2 4")}, // what is old is acknowledged all the same
		{Box: messages("a 1 1"), Wire: manyOf(sent(message("a", 1, 0)), 60)},
		{Box: messages("a 1 1"), Wire: manyOf(sent(message("a", 1, 0)), 59)},
		{Box: messages("a 1 1"), Wire: manyOf(acknowledged(message("a", 1, 1)), 60)},
		{Box: fullStore()},
		{Box: fullStore(), Store: fullStore(), Wire: fullWire()},
		{Box: fullStore(), Store: fullStore()[7:], Wire: fullWire()[1:]},
		{Box: fullStore()[:15], Store: fullStore()[15:], Wire: fullWire()},
	} {
		moves, e := FlushOf(x)
		want(t, "the error of FlushOf", e, api.OK)
		checkFlush(t, x, moves)
	}
	for _, x := range []api.WarnLink{
		{Box: messages("a 1 1"), Store: messages("a 1 2")},
		{Box: messages("a 1 1"), Store: fullStore()},
		{Box: messages("a 1 1", "b 1 1"), Store: fullStore()[1:]},
		{Box: messages("a 1 1", "b 1 1"), Store: messages("b 1 0")},
		{Box: messages("a 1 1"), Store: messages("a 1 2"), Wire: []api.WarnPacket{acknowledged(message("a", 1, 1))}},
		{Box: messages("a 1 1"), Store: messages("a 1 2"), Wire: []api.WarnPacket{sent(message("a", 2, 1))}},
	} {
		moves, e := FlushOf(x)
		refused(t, "FlushOf", api.ErrNone, moves, e)
	}
	moves, e := FlushOf(api.WarnLink{Wire: fullWire(), Store: fullStore()})
	want(t, "FlushOf an empty box", results(moves, e), results([]api.WarnMove{}, api.OK))
}
