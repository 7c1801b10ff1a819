package service

import (
	"slices"

	"skywave/api"
)

// Desk is a net, and a log that grows.
type Desk struct {
	net api.ServiceNet
	log []api.ServiceEntry
}

// New returns a desk with the empty log.
func New(n api.ServiceNet) (*Desk, api.Errno) {
	if _, e := CheckNet(n); e != api.OK {
		return nil, e
	}
	n.People = slices.Clone(n.People)
	n.Stations = slices.Clone(n.Stations)
	n.Code = slices.Clone(n.Code)
	n.Warnings = slices.Clone(n.Warnings)
	return &Desk{net: n}, api.OK
}

// Enter appends an entry.
func (d *Desk) Enter(at int, by, text string) api.Errno {
	if d == nil {
		return api.ErrNil
	}
	l, e := Appended(d.net, d.log, api.ServiceEntry{At: at, By: by, Text: text})
	if e != api.OK {
		return e
	}
	d.log = l
	return api.OK
}

// Undo removes the last entry.
func (d *Desk) Undo() api.Errno {
	if d == nil {
		return api.ErrNil
	}
	if len(d.log) == 0 {
		return api.ErrNone
	}
	d.log = d.log[:len(d.log)-1]
	return api.OK
}

// Log returns the log.
func (d *Desk) Log() []api.ServiceEntry {
	if d == nil {
		return nil
	}
	return slices.Clone(d.log)
}

// Answer returns the answer to a question.
func (d *Desk) Answer(question string) (string, api.Errno) {
	if d == nil {
		return "", api.ErrNil
	}
	return Answer(d.net, d.log, question)
}

// Journal returns the journal.
func (d *Desk) Journal() string {
	if d == nil {
		return ""
	}
	// There is no error, as the net and each entry were checked.
	s, _ := Journal(d.net, d.log)
	return s
}
