package service

import (
	"strings"

	"skywave/api"
)

// book is a valid log that grows, and what follows from it.
type book struct {
	office
	kinds     map[string]kind // of entries, by their words
	log       []api.ServiceEntry
	sounds    []sounding
	ionograms []ionogram
	products  []product // of all versions
	warnings  []warning
	clients   []client
}

// emptyBook returns the book of the empty log, or the error of the net.
func emptyBook(n api.ServiceNet) (*book, api.Errno) {
	o, e := officeOf(n)
	if e != api.OK {
		return nil, e
	}
	b := &book{office: o, kinds: kindsOfEntries()}
	for _, name := range o.topics {
		b.warnings = append(b.warnings, warning{api.ServiceWarning{Name: name}})
	}
	return b, api.OK
}

// bookOf returns the book of a log, or the index of an entry and the error.
func bookOf(n api.ServiceNet, l []api.ServiceEntry) (*book, int, api.Errno) {
	b, e := emptyBook(n)
	if e = firstError(e, errorIf(len(l) > api.MaxServiceEntries, api.ErrLarge)); e != api.OK {
		return nil, 0, e
	}
	i, e := firstBad(l, func(_ int, entry api.ServiceEntry) api.Errno { return b.enter(entry) })
	if e != api.OK {
		return nil, i, e
	}
	return b, 0, api.OK
}

// enter appends an entry to the log; beside an error nothing changes.
func (b *book) enter(entry api.ServiceEntry) api.Errno {
	role, known := b.roles[entry.By]
	e := firstError(
		errorIf(len(b.log) == api.MaxServiceEntries, api.ErrLarge),
		errorIf(!known, api.ErrMissing),
		rangeError(entry.At, 0, api.MaxTick),
		errorIf(entry.At < b.lastTick(), api.ErrOrder),
		errorIf(len(entry.Text) > api.MaxServiceText, api.ErrLarge),
		errorIf(!isPlain(entry.Text), api.ErrForm),
	)
	if e != api.OK {
		return e
	}
	word, rest, isFollowed := strings.Cut(entry.Text, " ")
	k, known := b.kinds[word]
	o, isOrder := readOrder(k.form, rest)
	e = firstError(
		errorIf(!known, api.ErrSyntax),
		errorIf(role < k.role, api.ErrAllowed),
		errorIf(!isFollowed || !isOrder, api.ErrSyntax),
	)
	if e != api.OK {
		return e
	}
	o.by = entry.By
	if e := k.apply(b, o); e != api.OK {
		return e
	}
	b.log = append(b.log, entry)
	return api.OK
}

// lastTick returns the time of the last entry, or the first time if there is none.
func (b *book) lastTick() int {
	if len(b.log) == 0 {
		return 0
	}
	return b.log[len(b.log)-1].At
}

func (b *book) state() api.ServiceState {
	return api.ServiceState{
		Sounds:   converted(b.sounds, func(s sounding) api.ServiceSound { return s.ServiceSound }),
		Grams:    converted(b.ionograms, func(g ionogram) api.ServiceGram { return g.ServiceGram }),
		Products: converted(b.newest(), func(p product) api.ServiceProduct { return p.ServiceProduct }),
		Warnings: converted(b.warnings, func(w warning) api.ServiceWarning { return w.ServiceWarning }),
		Clients:  converted(b.clients, func(c client) api.ServiceClient { return c.ServiceClient }),
	}
}
