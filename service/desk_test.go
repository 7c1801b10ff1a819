package service

import (
	"testing"

	"skywave/api"
)

// enterAll makes entries at a desk that must be valid.
func enterAll(t *testing.T, d *Desk, l []api.ServiceEntry) {
	t.Helper()
	for _, x := range l {
		want(t, "Enter", d.Enter(x.At, x.By, x.Text), api.OK)
	}
}

func newDesk(t *testing.T, n api.ServiceNet) *Desk {
	t.Helper()
	d, e := New(n)
	want(t, "New", e, api.OK)
	return d
}

// checkDesk compares a desk with a log.
func checkDesk(t *testing.T, d *Desk, n api.ServiceNet, l []api.ServiceEntry) {
	t.Helper()
	want(t, "Log", d.Log(), l)
	journal, e := Journal(n, l)
	want(t, "Journal", results(d.Journal(), api.OK), results(journal, e))
	for _, question := range []string{"count", "sounds", "grams", "clients", "stations", "echoes s1", "path g1", "profile k", "version k", "warning storm", "pending c", "x", ""} {
		s, e := d.Answer(question)
		expected, o := Answer(n, l, question)
		want(t, "Answer to "+question, results(s, e), results(expected, o))
	}
}

// P10.8

func TestDesk(t *testing.T) {
	for _, n := range goodNets() {
		d := newDesk(t, n)
		checkDesk(t, d, n, nil)
		want(t, "Undo", d.Undo(), api.ErrNone)
		checkDesk(t, d, n, nil)
	}
	n, l := exampleNet(), exampleLog()
	d := newDesk(t, n)
	for i, x := range l {
		want(t, "Enter", d.Enter(x.At, x.By, x.Text), api.OK)
		checkDesk(t, d, n, l[:i+1])
	}
	for i := len(l) - 1; i >= 0; i-- {
		want(t, "Undo", d.Undo(), api.OK)
		checkDesk(t, d, n, l[:i])
	}
	want(t, "Undo", d.Undo(), api.ErrNone)
	// What was undone can be entered again, and something else in its place.
	enterAll(t, d, l[:9])
	want(t, "Undo", d.Undo(), api.OK)
	other := append(exampleLog()[:8], entry(8, "ola", "note a"), entry(9, "ria", "invert g1"))
	enterAll(t, d, other[8:])
	checkDesk(t, d, n, other)
}

func TestDesksOfBadNets(t *testing.T) {
	for _, x := range badNets() {
		if d, e := New(x.n); d != nil || e != x.e {
			t.Errorf("New with bad %s: %v, %d, want %d", x.what, d, e, x.e)
		}
	}
}

// After an error nothing is changed.
func TestDeskRefuses(t *testing.T) {
	n, l := exampleNet(), exampleLog()
	d := newDesk(t, n)
	enterAll(t, d, l)
	for _, x := range []struct {
		at       int
		by, text string
		e        api.Errno
	}{
		{99, "none", "note a", api.ErrMissing},
		{-1, "ola", "note a", api.ErrRange},
		{19, "ola", "note a", api.ErrOrder},
		{99, "ola", "note \n", api.ErrForm},
		{99, "ola", "hello", api.ErrSyntax},
		{99, "ola", "client e", api.ErrAllowed},
		{99, "ola", "note", api.ErrSyntax},
		{99, "ola", "sound s1 k " + firstFrame, api.ErrExists},
		{99, "ola", "pair s1 " + firstFrame, api.ErrState},
		{99, "ola", "pair s2 0 20;1,1 1,1 1,1;", api.ErrClash},
		{99, "ria", "edit g1 3 m 9 0 ria", api.ErrMissing},
		{99, "ola", "subscribe c storm", api.ErrDouble},
		{99, "ola", "put d storm", api.ErrRefused},
		{99, "ola", "move c take 1", api.ErrMissing},
	} {
		want(t, "Enter "+x.text, d.Enter(x.at, x.by, x.text), x.e)
		checkDesk(t, d, n, l)
	}
	for i := len(l); i < 60; i++ {
		want(t, "Enter", d.Enter(20, "ola", "note a"), api.OK)
	}
	want(t, "Enter at a full desk", d.Enter(20, "ola", "note a"), api.ErrLarge)
	want(t, "the entries", len(d.Log()), 60)
	want(t, "Undo", d.Undo(), api.OK)
	want(t, "Enter", d.Enter(20, "ola", "note a"), api.OK)
}

func TestNilDesk(t *testing.T) {
	var d *Desk
	for _, x := range exampleLog() {
		want(t, "Enter", d.Enter(x.At, x.By, x.Text), api.ErrNil)
	}
	want(t, "Enter", d.Enter(-1, "", ""), api.ErrNil)
	want(t, "Undo", d.Undo(), api.ErrNil)
	want(t, "Log", len(d.Log()), 0)
	want(t, "Journal", d.Journal(), "")
	for _, question := range []string{"count", "", "x"} {
		s, e := d.Answer(question)
		refused(t, "Answer", api.ErrNil, s, e)
	}
}

// A desk that was not made by New has a net without persons, and refuses everything.
func TestZeroDesk(t *testing.T) {
	d := &Desk{}
	want(t, "Enter", d.Enter(1, "ola", "note a"), api.ErrShape)
	want(t, "Undo", d.Undo(), api.ErrNone)
	want(t, "Log", len(d.Log()), 0)
	want(t, "Journal", d.Journal(), "")
	s, e := d.Answer("count")
	refused(t, "Answer", api.ErrShape, s, e)
}

// A desk is at each moment as the log that was entered and not undone.
func TestDesksOfModel(t *testing.T) {
	for i, n := range goodNets() {
		d, m, next := newDesk(t, n), newModel(n), numbers(i)
		for tick := range 150 {
			if next(6) == 0 {
				e := api.ErrNone
				if count := len(m.log); count > 0 {
					m, e = modelOf(n, m.log[:count-1]), api.OK
				}
				want(t, "Undo", d.Undo(), e)
			} else {
				x := irregularEntry(m, next, tick)
				want(t, "Enter "+x.Text, d.Enter(x.At, x.By, x.Text), m.enter(x))
			}
			want(t, "Log", d.Log(), m.log)
		}
		checkDesk(t, d, n, m.log)
	}
}
