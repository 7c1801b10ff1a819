package service

import (
	"slices"
	"strings"
	"testing"

	"skywave/api"
	"skywave/ray"
	"skywave/trace"
	"skywave/warn"
)

// viewsOf returns what is computed again of all items of a log.
func viewsOf(n api.ServiceNet, l []api.ServiceEntry) map[string][]any {
	views := map[string][]any{}
	m := modelOf(n, l)
	for _, s := range m.state.Sounds {
		echoes, e := EchoesOf(n, l, s.Name)
		views["echoes "+s.Name] = results(echoes, e)
	}
	for _, g := range m.state.Grams {
		p, e := PathOf(n, l, g.Name)
		x, o := TraceOf(n, l, g.Name)
		views["path "+g.Name] = results(p, e, x, o)
	}
	for _, station := range n.Stations {
		sky, e := SkyOver(n, l, station)
		views["sky "+station] = results(sky, e)
	}
	return views
}

// P10.4, P10.5: everything is computed as the model computes it.
func TestViewsOfModel(t *testing.T) {
	skies := 0
	for n, l := range manyLogs {
		m := modelOf(n, l)
		for i := range m.state.Sounds {
			s := &m.state.Sounds[i]
			echoes, e := EchoesOf(n, l, s.Name)
			expected, o := m.echoesOf(s)
			want(t, "EchoesOf", results(echoes, e), results(expected, o))
		}
		for i := range m.state.Grams {
			g := &m.state.Grams[i]
			p, e := PathOf(n, l, g.Name)
			want(t, "PathOf", results(p, e), results(m.pathOf(g), api.OK))
			x, e := TraceOf(n, l, g.Name)
			want(t, "TraceOf", results(x, e), results(m.traceOf(g), api.OK))
		}
		for _, station := range n.Stations {
			sky, e := SkyOver(n, l, station)
			expected, o := m.skyOver(station)
			want(t, "SkyOver", results(sky, e), results(expected, o))
			if o == api.OK {
				skies++
				checkGround(t, n, l, station, expected)
			}
		}
		for i := range m.state.Warnings {
			w := &m.state.Warnings[i]
			s, e := WarningOf(n, l, w.Name)
			expected, events := m.warningOf(w)
			want(t, "WarningOf", results(s, e), results(expected, api.OK))
			// P10.16: the version is the number of events.
			want(t, "the version", s.Version, events)
		}
		for _, c := range m.state.Clients {
			names, e := PendingFor(n, l, c.Name)
			expected, o := warn.PendingIn(c.Link)
			want(t, "PendingFor", results(names, e), results(expected, o))
		}
	}
	if skies < 20 {
		t.Errorf("only %d skies were compared", skies)
	}
}

// checkGround compares ground distances with those in the sky over a station.
func checkGround(t *testing.T, n api.ServiceNet, l []api.ServiceEntry, station string, sky api.RaySky) {
	t.Helper()
	for _, frequency := range []int{0, 1, 200, 500, 1000, 3000, 3001} {
		for _, launch := range []api.Frac{{Den: 1}, {Num: 1, Den: 4}, {Num: 99, Den: 100}, {Num: 2, Den: 4}, {Num: 1, Den: 1}, {}} {
			r, e := GroundFrom(n, l, api.ServiceShot{Station: station, Frequency: frequency, Launch: launch})
			expected, o := ray.GroundOf(sky, frequency, launch)
			want(t, "GroundFrom", results(r, e), results(expected, o))
		}
	}
}

// The chapter's examples 1 and 2.
func TestEchoesOfExample(t *testing.T) {
	n, l := exampleNet(), exampleLog()
	echoes, e := EchoesOf(n, l, "s1")
	want(t, "EchoesOf", results(echoes, e), results([]api.EchoItem{{Lag: 1, Power: 1800, Tag: api.EchoOrdinary, Heights: api.Range{Lo: 90, Hi: 100}}}, api.OK))
	echoes, e = EchoesOf(n, l, "s2")
	refused(t, "EchoesOf with one frame", api.ErrGap, echoes, e)
	// With the frames exchanged the second one is -i times the first one: extraordinary.
	l = logOf("ola sound s k "+secondFrame, "ola pair s "+firstFrame)
	echoes, e = EchoesOf(n, l, "s")
	want(t, "EchoesOf", results(echoes, e), results([]api.EchoItem{{Lag: 1, Power: 1800, Tag: api.EchoExtra, Heights: api.Range{Lo: 90, Hi: 100}}}, api.OK))
	// A sounding without echoes.
	l = logOf("ola sound s k 0 20;0,0 0,0 0,0;", "ola pair s 0 20;0,0 0,0 0,0;")
	echoes, e = EchoesOf(n, l, "s")
	want(t, "no echoes", results(len(echoes), e), results(0, api.OK))
}

// Samples that are missing or saturated do not count; values that are too great are refused by chapter 2.
func TestEchoesOfFrames(t *testing.T) {
	n := exampleNet()
	for _, x := range []struct {
		first, second string
		e             api.Errno
		echoes        []api.EchoItem
	}{
		{"0 20;0,0 10,0 10,0 -10,0 0,0;2", "0 20;0,0 0,10 0,10 0,-10 0,0;2", api.OK, []api.EchoItem{{Lag: 1, Power: 800, Tag: api.EchoOrdinary, Heights: api.Range{Lo: 90, Hi: 100}}}},
		{"0 10;0,0 10,0 10,0 -10,0 0,0;", "0 20;0,0 0,10 0,10 0,-10 0,0;", api.OK, []api.EchoItem{{Lag: 1, Power: 900, Tag: api.EchoUndecided, Heights: api.Range{Lo: 90, Hi: 100}}}},
		{"0 9999;0,0 3333,0 3333,0 -3334,0 0,0;", "0 20;0,0 0,0 0,0 0,0 0,0;", api.OK, []api.EchoItem{{Lag: 1, Power: 100000000, Tag: api.EchoUndecided, Heights: api.Range{Lo: 90, Hi: 100}}}},
		{"0 9999;0,0 3333,0 3334,0 -3334,0 0,0;", "0 20;0,0 0,0 0,0 0,0 0,0;", api.ErrRange, nil},
		{"0 20;0,0 0,0 0,0 0,0 0,0;", "0 9999;0,0 0,3333 0,3334 0,-3334 0,0;", api.ErrRange, nil},
	} {
		l := logOf("ola sound s k "+x.first, "ola pair s "+x.second)
		echoes, e := EchoesOf(n, l, "s")
		want(t, "EchoesOf "+x.first, results(echoes, e), results(x.echoes, x.e))
		s, e := Answer(n, l, "echoes s")
		want(t, "the error of the answer", e, x.e)
		want(t, "whether there is an answer", s != "", x.e == api.OK)
	}
}

// The chapter's examples 3 and 4.
func TestPathsOfExample(t *testing.T) {
	n, l := exampleNet(), exampleLog()
	for _, x := range []struct {
		count int
		rows  []int
		last  api.Range
	}{{5, []int{0, 0, 1}, api.Range{Lo: 150, Hi: 200}}, {6, []int{0, 0, 0}, api.Range{Lo: 100, Hi: 150}}, {7, []int{0, 0, 1}, api.Range{Lo: 150, Hi: 200}}, {20, []int{0, 0, 1}, api.Range{Lo: 150, Hi: 200}}} {
		p, e := PathOf(n, l[:x.count], "g1")
		want(t, "PathOf", results(p, e), results(api.TracePath{Rows: x.rows}, api.OK))
		points, e := TraceOf(n, l[:x.count], "g1")
		want(t, "TraceOf", results(points, e), results(api.ProfileTrace{Points: []api.ProfilePoint{
			{Frequency: 200, Pixel: api.Range{Lo: 100, Hi: 150}},
			{Frequency: 250, Pixel: api.Range{Lo: 100, Hi: 150}},
			{Frequency: 300, Pixel: x.last},
		}}, api.OK))
	}
}

// The prices and the limit of the net decide the path, and only ordinary cells are looked for.
func TestPathsByReading(t *testing.T) {
	const gram = "ola gram g k 100 100;255o,0o,0o,0x;0x,0o,250o,255x;255o,0n,0n,255u"
	for _, x := range []struct {
		r    api.ServiceReading
		rows []int
	}{
		{api.ServiceReading{Miss: 300, Limit: 12, Row: 1}, []int{0, 2, 0}},
		{api.ServiceReading{Miss: 300, Limit: 1, Row: 1}, []int{0, 1, 0}},
		{api.ServiceReading{Miss: 200, Limit: 0, Row: 1}, []int{0, 0, 0}},
		{api.ServiceReading{Miss: 0, Limit: 12, Row: 1}, []int{0, 0, 0}},
		{api.ServiceReading{Miss: 300, Jump: 100, Limit: 12, Row: 1}, []int{0, 0, 0}},
		{api.ServiceReading{Miss: 300, Jump: 10, Limit: 12, Row: 1}, []int{0, 2, 3}},
	} {
		n := exampleNet()
		n.Reading = x.r
		p, e := PathOf(n, logOf(gram), "g")
		want(t, "PathOf", results(p, e), results(api.TracePath{Rows: x.rows}, api.OK))
	}
}

// A trace has no points where rows were removed, and pixels by Base and Row.
func TestTraceWithRemovedRows(t *testing.T) {
	n := exampleNet()
	n.Reading.Base, n.Reading.Row = 7, 3
	l := logOf(
		"ola gram g k 100 10;255o,0o;255o,0o;0o,255o",
		"ria edit g 1 r 1 0 ria",
	)
	x, e := TraceOf(n, l, "g")
	want(t, "TraceOf", results(x, e), results(api.ProfileTrace{Points: []api.ProfilePoint{
		{Frequency: 100, Pixel: api.Range{Lo: 7, Hi: 10}},
		{Frequency: 120, Pixel: api.Range{Lo: 10, Hi: 13}},
	}}, api.OK))
	l = append(l, logOf("ria edit g 2 r 0 0 ria", "ria edit g 3 r 2 0 ria")...)
	for i := range l {
		l[i].At = 0
	}
	x, e = TraceOf(n, l, "g")
	want(t, "TraceOf without points", results(len(x.Points), x.After, x.Width, e), results(0, 0, 0, api.OK))
	p, e := PathOf(n, l, "g")
	want(t, "PathOf", results(p, e), results(api.TracePath{Rows: []int{-1, -1, -1}}, api.OK))
	enters(t, n, l, entry(9, "ria", "invert g"), api.ErrShape)
	// A trace that cannot be inverted has all points.
	l = logOf("ola gram g k 3000 3000" + strings.Repeat(";1o", 10))
	x, e = TraceOf(n, l, "g")
	want(t, "TraceOf", results(len(x.Points), x.Points[9].Frequency, e), results(10, 30000, api.OK))
}

func TestSkyOver(t *testing.T) {
	n, l := exampleNet(), exampleLog()
	for _, x := range []struct {
		count int
		sky   api.RaySky
		e     api.Errno
	}{
		{0, api.RaySky{}, api.ErrGap},
		{8, api.RaySky{}, api.ErrGap},
		{9, api.RaySky{Height: 150, Slabs: []api.RaySlab{{Thickness: 1, Square: 90000}}}, api.OK},
		{10, api.RaySky{Height: 100, Slabs: []api.RaySlab{{Thickness: 28, Square: 62500}, {Thickness: 1, Square: 90000}}}, api.OK}, // without the slab of the thickness 0
		{20, api.RaySky{Height: 100, Slabs: []api.RaySlab{{Thickness: 28, Square: 62500}, {Thickness: 1, Square: 90000}}}, api.OK},
	} {
		sky, e := SkyOver(n, l[:x.count], "k")
		want(t, "SkyOver", results(sky, e), results(x.sky, x.e))
	}
	r, e := GroundFrom(n, l, api.ServiceShot{Station: "k", Frequency: 300, Launch: api.Frac{Den: 1}})
	want(t, "GroundFrom", results(r, e), results(api.Range{}, api.OK))
	r, e = GroundFrom(n, l, api.ServiceShot{Station: "k", Frequency: 301, Launch: api.Frac{Den: 1}})
	refused(t, "GroundFrom", api.ErrOpen, r, e)
	r, e = GroundFrom(n, l, api.ServiceShot{Station: "k", Frequency: 250, Launch: api.Frac{Num: 1, Den: 2}})
	want(t, "GroundFrom", results(r, e), results(api.Range{Lo: 20000, Hi: 20000}, api.OK))
}

// A profile whose Base is 0 has no valid sky; its answers are given all the same.
func TestSkyFromGround(t *testing.T) {
	n := groundNet()
	l := logOf("ola gram g k 200 50;255o", "ria invert g")
	sky, e := SkyOver(n, l, "k")
	refused(t, "SkyOver", api.ErrRange, sky, e)
	r, e := GroundFrom(n, l, api.ServiceShot{Station: "k", Frequency: 100, Launch: api.Frac{Den: 1}})
	refused(t, "GroundFrom", api.ErrRange, r, e)
	// The error of the sky comes before those of the ray.
	r, e = GroundFrom(n, l, api.ServiceShot{Station: "k"})
	refused(t, "GroundFrom", api.ErrRange, r, e)
	s, e := Answer(n, l, "profile k")
	want(t, "the profile", results(s, e), results("0;40000 1", api.OK))
}

// The chapter's examples 5 and 6.
func TestWarningsOfExample(t *testing.T) {
	n, l := exampleNet(), exampleLog()
	for _, x := range []struct {
		count   int
		state   api.WarnState
		pending []string
	}{
		{14, api.WarnState{Level: 1, Below: 1, Version: 1}, nil},
		{15, api.WarnState{Level: 1, Below: 1, Version: 1}, nil},
		{16, api.WarnState{Level: 1, Below: 1, Version: 1}, []string{"storm"}},
		{17, api.WarnState{Level: 1, Below: 1, Version: 1}, []string{"storm"}},
		{18, api.WarnState{Level: 1, Below: 1, Version: 1}, nil},
		{19, api.WarnState{Level: 2, Version: 2}, nil},
		{20, api.WarnState{Level: 2, Version: 2}, []string{"storm"}},
	} {
		s, e := WarningOf(n, l[:x.count], "storm")
		want(t, "WarningOf", results(s, e), results(x.state, api.OK))
		names, e := PendingFor(n, l[:x.count], "c")
		want(t, "PendingFor c", results(names, e), results(x.pending, api.OK))
		names, e = PendingFor(n, l[:x.count], "d")
		want(t, "PendingFor d", results(len(names), e), results(0, api.OK))
	}
	s, e := WarningOf(n, nil, "storm")
	want(t, "WarningOf without values", results(s, e), results(api.WarnState{}, api.OK))
	l = append(l[:18], logOf("ola move c take 0")...)
	l[18].At = 18
	want(t, "the link after the acknowledgement", stateAfter(t, n, l).Clients[0].Link, api.WarnLink{Store: []api.WarnMessage{{Warning: "storm", Version: 1, Level: 1}}})
}

// A message that is put again with the same version changes nothing.
func TestPutAgain(t *testing.T) {
	n := fourNet()
	l := logOf("mia client c", "ola subscribe c storm", "ola subscribe c fade", "ola value storm 55", "ola value fade 10", "ola put c storm", "ola put c fade", "ola value storm 56", "ola put c storm")
	want(t, "the link", stateAfter(t, n, l).Clients, stateAfter(t, n, l[:7]).Clients)
	names, e := PendingFor(n, l, "c")
	want(t, "PendingFor", results(names, e), results([]string{"fade", "storm"}, api.OK))
	want(t, "the topics", stateAfter(t, n, l).Clients[0].Topics, []string{"storm", "fade"})
}

// Each warning has rules of its own, and each client a link of its own.
func TestWarningsAreApart(t *testing.T) {
	n := fourNet()
	l := logOf("ola value storm 20", "ola value fade 20", "mia client c", "mia client d", "ola subscribe c fade", "ola subscribe d fade", "ola put d fade")
	storm, _ := WarningOf(n, l, "storm")
	fade, _ := WarningOf(n, l, "fade")
	want(t, "the states", results(storm, fade), results(api.WarnState{}, api.WarnState{Level: 1, Version: 1}))
	c, _ := PendingFor(n, l, "c")
	d, _ := PendingFor(n, l, "d")
	want(t, "what is pending", results(c, d), results([]string{}, []string{"fade"}))
}

// An ionogram that is inverted twice without new edits gives the same profile, and a greater version.
func TestInvertTwice(t *testing.T) {
	l := append(exampleLog(), entry(30, "ria", "invert g1"), entry(30, "mia", "invert g1"))
	products, e := ProductsOf(exampleNet(), l, "k")
	want(t, "ProductsOf", results(len(products), e), results(4, api.OK))
	for i, p := range products[1:] {
		want(t, "a product", p, api.ServiceProduct{Station: "k", Version: i + 2, Gram: "g1", Profile: products[1].Profile})
	}
}

// P10.10: a longer valid log has the same echoes, and the same path of each ionogram without further edits.
func TestTheSameDay(t *testing.T) {
	for n, l := range manyLogs {
		journal, e := Journal(n, l)
		want(t, "the error of Journal", e, api.OK)
		recovered, _, e := Recovered(n, journal)
		want(t, "the error of Recovered", e, api.OK)
		after := viewsOf(n, l)
		want(t, "the views of the recovered log", viewsOf(n, recovered), after)
		if len(l) == 0 {
			continue
		}
		shorter := l[:len(l)*2/3]
		for what, before := range viewsOf(n, shorter) {
			word, name, _ := strings.Cut(what, " ")
			isEdited := slices.ContainsFunc(l[len(shorter):], func(x api.ServiceEntry) bool {
				return strings.HasPrefix(x.Text, "edit "+name+" ")
			})
			isWhole := word == "echoes" && before[1] != api.ErrGap
			if isWhole || word == "path" && !isEdited {
				want(t, what, after[what], before)
			}
		}
	}
}

// P10.11: versions ascend by 1 from 1 on, the newest one is in the state, and no profile disagreed with its trace.
func TestVersions(t *testing.T) {
	count := 0
	for n, l := range manyLogs {
		s, m := stateAfter(t, n, l), modelOf(n, l)
		for _, station := range n.Stations {
			products, e := ProductsOf(n, l, station)
			want(t, "the error of ProductsOf", e, api.OK)
			for i, p := range products {
				want(t, "the version", p.Version, i+1)
			}
			newest := slices.IndexFunc(s.Products, func(p api.ServiceProduct) bool { return p.Station == station })
			if len(products) == 0 {
				want(t, "no product", newest, -1)
				continue
			}
			count += len(products)
			want(t, "the newest product", s.Products[newest], products[len(products)-1])
		}
		if slices.Contains(m.fits, false) {
			t.Error("a profile that disagrees with its trace")
		}
	}
	if count < 50 {
		t.Errorf("only %d products were compared", count)
	}
}

// P10.12: each edit was made by the person who is named in it; without edits, and after all are withdrawn, the path is the cheapest trace.
func TestWhoCorrected(t *testing.T) {
	edits := 0
	for n, l := range manyLogs {
		m := modelOf(n, l)
		for _, g := range stateAfter(t, n, l).Grams {
			var made []api.TraceEdit
			for _, x := range l {
				if text, is := strings.CutPrefix(x.Text, "edit "+g.Name+" "); is {
					edit, _ := trace.ParseEdit(text)
					want(t, "who made an edit", edit.By, x.By)
					made = append(made, edit)
				}
			}
			want(t, "the edits", g.Edits, made)
			edits += len(made)
			cheapest := m.found(g.Gram)
			p, _ := PathOf(n, l, g.Name)
			if len(made) == 0 {
				want(t, "the path without edits", p, cheapest)
			}
		}
	}
	if edits < 50 {
		t.Errorf("only %d edits were compared", edits)
	}
	l := logOf("ola gram g k "+exampleGram, "ria edit g 1 m 2 0 ria", "mia edit g 2 r 0 0 mia", "mia edit g 3 w 0 1 mia", "ria edit g 4 w 0 2 ria")
	for i, rows := range [][]int{{0, 0, 1}, {0, 0, 0}, {-1, 0, 0}, {-1, 0, 1}, {0, 0, 1}} {
		p, e := PathOf(exampleNet(), l[:i+1], "g")
		want(t, "the path", results(p, e), results(api.TracePath{Rows: rows}, api.OK))
	}
}

// P10.13: what was put is in the box, or something as new is in the box or the store; a client has only what was put.
func TestNothingLost(t *testing.T) {
	count := 0
	for n, l := range manyLogs {
		m := modelOf(n, l)
		for _, c := range stateAfter(t, n, l).Clients {
			all := slices.Concat(c.Link.Box, c.Link.Store)
			for _, put := range m.puts[c.Name] {
				count++
				if !slices.ContainsFunc(all, func(x api.WarnMessage) bool { return x.Warning == put.Warning && x.Version >= put.Version }) {
					t.Errorf("%v is lost for %s", put, c.Name)
				}
			}
			for _, p := range c.Link.Wire {
				all = append(all, p.Message)
			}
			for _, x := range all {
				if !slices.Contains(m.puts[c.Name], x) {
					t.Errorf("%v was never put for %s", x, c.Name)
				}
			}
		}
	}
	if count < 50 {
		t.Errorf("only %d messages were compared", count)
	}
}

// P10.16: a version never becomes less in a longer log.
func TestNoFlutter(t *testing.T) {
	for n, l := range manyLogs {
		for _, w := range stateAfter(t, n, nil).Warnings {
			version := 0
			for i := range len(l) + 1 {
				s, e := WarningOf(n, l[:i], w.Name)
				if e != api.OK || s.Version < version || s.Version > version+1 {
					t.Errorf("the version %d after %d: %d", s.Version, version, e)
				}
				version = s.Version
			}
		}
	}
}
