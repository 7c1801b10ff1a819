package warn

import (
	"slices"

	"skywave/api"
)

// CheckLink returns the error of a link.
func CheckLink(x api.WarnLink) api.Errno {
	_, e := firstBad(x.Wire, func(_ int, p api.WarnPacket) api.Errno { return messageError(p.Message) })
	return firstError(
		storeError(x.Box),
		storeError(x.Store),
		errorIf(len(x.Wire) > api.MaxWarnWire, api.ErrLarge),
		e,
	)
}

// Moved returns the link after a move.
func Moved(x api.WarnLink, m api.WarnMove) (api.WarnLink, api.Errno) {
	after, _, e := RunOf(x, []api.WarnMove{m})
	return after, e
}

// RunOf returns the link after moves, or the index and the error of the first one that cannot be made.
func RunOf(x api.WarnLink, l []api.WarnMove) (api.WarnLink, int, api.Errno) {
	e := firstError(CheckLink(x), errorIf(len(l) > api.MaxWarnMoves, api.ErrLarge))
	if e != api.OK {
		return api.WarnLink{}, 0, e
	}
	after := line{api.WarnLink{
		Box:   slices.Clone(x.Box),
		Wire:  slices.Clone(x.Wire),
		Store: slices.Clone(x.Store),
	}}
	i, e := firstBad(l, func(_ int, m api.WarnMove) api.Errno { return after.move(m) })
	if e != api.OK {
		return api.WarnLink{}, i, e
	}
	return after.WarnLink, 0, api.OK
}

// PendingIn returns the names of all warnings that are pending.
func PendingIn(x api.WarnLink) ([]string, api.Errno) {
	if e := CheckLink(x); e != api.OK {
		return nil, e
	}
	var names []string
	for _, m := range x.Box {
		i, known := placeOf(x.Store, m.Warning)
		if !known || m.Version > x.Store[i].Version {
			names = append(names, m.Warning)
		}
	}
	return names, api.OK
}

// FlushOf returns moves that bring all messages of the box to the store: each one is sent, taken, and acknowledged before the next one.
func FlushOf(x api.WarnLink) ([]api.WarnMove, api.Errno) {
	if e := CheckLink(x); e != api.OK {
		return nil, e
	}
	if _, _, e := receivedAll(x.Store, x.Box); e != api.OK {
		return nil, api.ErrNone
	}
	var moves []api.WarnMove
	last := len(x.Wire)
	if len(x.Box) > 0 && last == api.MaxWarnWire {
		// The wire has no place for a message.
		moves = append(moves, api.WarnMove{Kind: api.WarnLose})
		last--
	}
	take := api.WarnMove{Kind: api.WarnTake, Index: last}
	for range x.Box {
		moves = append(moves, api.WarnMove{Kind: api.WarnSend}, take, take)
	}
	return moves, api.OK
}

// line is a valid link, with memory of its own, that moves change.
type line struct{ api.WarnLink }

// move makes a move, or returns why it cannot be made.
func (x *line) move(m api.WarnMove) api.Errno {
	if e := moveError(m); e != api.OK {
		return e
	}
	switch m.Kind {
	case api.WarnPut:
		return x.put(m.Message)
	case api.WarnSend:
		return x.send(m.Index)
	}
	if outside(m.Index, 0, len(x.Wire)-1) {
		return api.ErrMissing
	}
	packet := x.Wire[m.Index]
	if m.Kind == api.WarnCopy {
		return x.carry(packet)
	}
	x.Wire = slices.Delete(x.Wire, m.Index, m.Index+1)
	if m.Kind == api.WarnLose {
		return api.OK
	}
	return x.take(packet)
}

func (x *line) put(m api.WarnMessage) api.Errno {
	box, e := received(x.Box, m)
	x.Box = box
	return e
}

func (x *line) send(index int) api.Errno {
	if outside(index, 0, len(x.Box)-1) {
		return api.ErrMissing
	}
	return x.carry(api.WarnPacket{Message: x.Box[index]})
}

// take brings a packet that was removed from the wire to where it is received.
func (x *line) take(p api.WarnPacket) api.Errno {
	if p.Ack {
		x.acknowledge(p.Message)
		return api.OK
	}
	store, e := received(x.Store, p.Message)
	if e != api.OK {
		return e
	}
	x.Store = store
	return x.carry(api.WarnPacket{Message: p.Message, Ack: true})
}

// acknowledge removes the message of a warning from the box, unless it is newer than the one that was received.
func (x *line) acknowledge(m api.WarnMessage) {
	i, known := placeOf(x.Box, m.Warning)
	if known && x.Box[i].Version <= m.Version {
		x.Box = slices.Delete(x.Box, i, i+1)
	}
}

// carry adds a packet at the end of the wire.
func (x *line) carry(p api.WarnPacket) api.Errno {
	if len(x.Wire) == api.MaxWarnWire {
		return api.ErrFull
	}
	x.Wire = append(x.Wire, p)
	return api.OK
}

func moveError(m api.WarnMove) api.Errno {
	isPut := m.Kind == api.WarnPut
	hasMessage := m.Message != api.WarnMessage{}
	return firstError(
		errorIf(outside(m.Kind, 0, api.WarnMoves-1), api.ErrKind),
		errorIf(isPut && m.Index != 0 || !isPut && hasMessage, api.ErrForm),
	)
}
