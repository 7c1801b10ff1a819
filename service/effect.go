package service

import (
	"slices"

	"skywave/api"
	"skywave/code"
	"skywave/profile"
	"skywave/trace"
	"skywave/warn"
)

func (b *book) note(order) api.Errno { return api.OK }

func (b *book) sound(o order) api.Errno {
	name, station := o.words[0], o.words[1]
	frame, e := code.ParseFrame(o.rest)
	e = firstError(
		newError(b.sounds, name),
		errorIf(!b.hasStation(station), api.ErrMissing),
		e,
		b.frameError(frame),
		errorIf(len(b.sounds) == api.MaxServiceSounds, api.ErrFull),
	)
	if e != api.OK {
		return e
	}
	s := api.ServiceSound{Name: name, Station: station, Frames: []api.CodeFrame{frame}}
	b.sounds = append(b.sounds, sounding{s})
	return api.OK
}

func (b *book) pair(o order) api.Errno {
	i := placeOf(b.sounds, o.words[0])
	if i < 0 {
		return api.ErrMissing
	}
	s := &b.sounds[i]
	frame, e := code.ParseFrame(o.rest)
	e = firstError(
		errorIf(len(s.Frames) == antennas, api.ErrState),
		e,
		b.frameError(frame),
		errorIf(len(frame.Samples) != len(s.Frames[0].Samples), api.ErrClash),
	)
	if e != api.OK {
		return e
	}
	s.Frames = append(s.Frames, frame)
	return api.OK
}

func (b *book) gram(o order) api.Errno {
	name, station := o.words[0], o.words[1]
	g, e := trace.ParseGram(o.rest)
	e = firstError(
		newError(b.ionograms, name),
		errorIf(!b.hasStation(station), api.ErrMissing),
		e,
		errorIf(len(b.ionograms) == api.MaxServiceGrams, api.ErrFull),
	)
	if e != api.OK {
		return e
	}
	b.ionograms = append(b.ionograms, ionogram{api.ServiceGram{Name: name, Station: station, Gram: g}})
	return api.OK
}

func (b *book) edit(o order) api.Errno {
	i := placeOf(b.ionograms, o.words[0])
	if i < 0 {
		return api.ErrMissing
	}
	g := b.ionograms[i]
	edit, e := trace.ParseEdit(o.rest)
	g.Edits = append(slices.Clone(g.Edits), edit)
	_, wrong := b.corrected(g)
	if e = firstError(e, errorIf(edit.By != o.by, api.ErrClash), wrong); e != api.OK {
		return e
	}
	b.ionograms[i] = g
	return api.OK
}

func (b *book) invert(o order) api.Errno {
	i := placeOf(b.ionograms, o.words[0])
	if i < 0 {
		return api.ErrMissing
	}
	g := b.ionograms[i]
	sky, _, e := profile.Fitted(b.traceOf(g))
	if e != api.OK {
		return e
	}
	version := len(b.productsOf(g.Station)) + 1
	p := api.ServiceProduct{Station: g.Station, Version: version, Gram: g.Name, Profile: sky}
	b.products = append(b.products, product{p})
	return api.OK
}

func (b *book) value(o order) api.Errno {
	i := placeOf(b.warnings, o.words[0])
	if i < 0 {
		return api.ErrMissing
	}
	w := &b.warnings[i]
	e := firstError(
		rangeError(o.number, -api.MaxWarnValue, api.MaxWarnValue),
		errorIf(len(w.Values) == api.MaxServiceValues, api.ErrFull),
	)
	if e != api.OK {
		return e
	}
	w.Values = append(w.Values, o.number)
	return api.OK
}

func (b *book) client(o order) api.Errno {
	name := o.words[0]
	e := firstError(
		newError(b.clients, name),
		errorIf(len(b.clients) == api.MaxServiceClients, api.ErrFull),
	)
	if e != api.OK {
		return e
	}
	b.clients = append(b.clients, client{api.ServiceClient{Name: name}})
	return api.OK
}

func (b *book) subscribe(o order) api.Errno {
	i, topic := placeOf(b.clients, o.words[0]), o.words[1]
	if i < 0 || !has(b.warnings, topic) {
		return api.ErrMissing
	}
	c := &b.clients[i]
	if slices.Contains(c.Topics, topic) {
		return api.ErrDouble
	}
	c.Topics = append(c.Topics, topic)
	return api.OK
}

func (b *book) put(o order) api.Errno {
	i, j := placeOf(b.clients, o.words[0]), placeOf(b.warnings, o.words[1])
	if i < 0 || j < 0 {
		return api.ErrMissing
	}
	w := b.warnings[j]
	s := b.stateOf(w)
	e := firstError(
		errorIf(!slices.Contains(b.clients[i].Topics, w.Name), api.ErrRefused),
		errorIf(s.Version == 0, api.ErrGap),
	)
	if e != api.OK {
		return e
	}
	message := api.WarnMessage{Warning: w.Name, Version: s.Version, Level: s.Level}
	return b.clients[i].move(api.WarnMove{Kind: api.WarnPut, Message: message})
}

func (b *book) move(o order) api.Errno {
	i := placeOf(b.clients, o.words[0])
	moves := map[string]int{"send": api.WarnSend, "lose": api.WarnLose, "copy": api.WarnCopy, "take": api.WarnTake}
	kind, known := moves[o.words[1]]
	if e := firstError(errorIf(i < 0, api.ErrMissing), errorIf(!known, api.ErrSyntax)); e != api.OK {
		return e
	}
	return b.clients[i].move(api.WarnMove{Kind: kind, Index: o.number})
}

func (c *client) move(m api.WarnMove) api.Errno {
	link, e := warn.Moved(c.Link, m)
	if e != api.OK {
		return e
	}
	c.Link = link
	return api.OK
}

// frameError returns the error of compressing a frame.
func (b *book) frameError(f api.CodeFrame) api.Errno {
	_, e := code.Compressed(f, b.wave)
	return e
}
