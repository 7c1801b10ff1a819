package service

import (
	"fmt"
	"math/big"
	"regexp"
	"slices"
	"strconv"
	"strings"

	"skywave/api"
	"skywave/code"
	"skywave/echo"
	"skywave/profile"
	"skywave/ray"
	"skywave/trace"
	"skywave/warn"
)

// model is a log that is replayed as the chapter's table says, text by text.
type model struct {
	net   api.ServiceNet
	log   []api.ServiceEntry
	state api.ServiceState
	made  []api.ServiceProduct // all products
	fits  []bool               // whether each of them met its trace when it was made
	puts  map[string][]api.WarnMessage
}

func newModel(n api.ServiceNet) *model {
	m := &model{net: n, puts: map[string][]api.WarnMessage{}}
	for _, text := range n.Warnings {
		name, _, _ := strings.Cut(text, " ")
		m.state.Warnings = append(m.state.Warnings, api.ServiceWarning{Name: name})
	}
	return m
}

// modelOf replays a log that must be valid.
func modelOf(n api.ServiceNet, l []api.ServiceEntry) *model {
	m := newModel(n)
	for i, x := range l {
		if e := m.enter(x); e != api.OK {
			panic(fmt.Sprint(i, x, e))
		}
	}
	return m
}

// textForm is a line of the chapter's table: the role, and the form of the whole text.
type textForm struct {
	role int
	form *regexp.Regexp
}

func tableOfTexts() map[string]textForm {
	line := func(role int, form string) textForm { return textForm{role, regexp.MustCompile("^" + form + "$")} }
	return map[string]textForm{
		"note":      line(api.ServiceViewer, "note (.*)"),
		"sound":     line(api.ServiceOperator, "sound ([^ ]+) ([^ ]+) (.*)"),
		"pair":      line(api.ServiceOperator, "pair ([^ ]+) (.*)"),
		"gram":      line(api.ServiceOperator, "gram ([^ ]+) ([^ ]+) (.*)"),
		"edit":      line(api.ServiceReader, "edit ([^ ]+) (.*)"),
		"invert":    line(api.ServiceReader, "invert ([^ ]+)"),
		"value":     line(api.ServiceOperator, "value ([^ ]+) (0|-?[1-9][0-9]{0,6})"),
		"client":    line(api.ServiceMaster, "client ([^ ]+)"),
		"subscribe": line(api.ServiceOperator, "subscribe ([^ ]+) ([^ ]+)"),
		"put":       line(api.ServiceOperator, "put ([^ ]+) ([^ ]+)"),
		"move":      line(api.ServiceOperator, "move ([^ ]+) ([^ ]+) (0|[1-9][0-9]{0,6})"),
	}
}

var (
	table      = tableOfTexts()
	nameForm   = regexp.MustCompile(`^[A-Za-z][A-Za-z0-9-]{0,11}$`)
	unseenForm = regexp.MustCompile(`[^ -~]`)
)

func (m *model) enter(x api.ServiceEntry) api.Errno {
	who := slices.IndexFunc(m.net.People, func(p api.ServicePerson) bool { return p.Name == x.By })
	switch {
	case len(m.log) >= 60:
		return api.ErrLarge
	case who < 0:
		return api.ErrMissing
	case x.At < 0 || x.At > 1000000000000:
		return api.ErrRange
	case len(m.log) > 0 && x.At < m.log[len(m.log)-1].At:
		return api.ErrOrder
	case len(x.Text) > 400:
		return api.ErrLarge
	case unseenForm.MatchString(x.Text):
		return api.ErrForm
	}
	word := strings.Split(x.Text, " ")[0]
	line, known := table[word]
	if !known {
		return api.ErrSyntax
	}
	if m.net.People[who].Role < line.role {
		return api.ErrAllowed
	}
	parts := line.form.FindStringSubmatch(x.Text)
	if parts == nil {
		return api.ErrSyntax
	}
	e := m.apply(word, x.By, parts[1:])
	if e == api.OK {
		m.log = append(m.log, x)
	}
	return e
}

func (m *model) apply(word, by string, parts []string) api.Errno {
	switch word {
	case "sound":
		return m.sound(parts[0], parts[1], parts[2])
	case "pair":
		return m.pair(parts[0], parts[1])
	case "gram":
		return m.gram(parts[0], parts[1], parts[2])
	case "edit":
		return m.edit(parts[0], parts[1], by)
	case "invert":
		return m.invert(parts[0])
	case "value":
		return m.value(parts[0], parts[1])
	case "client":
		return m.client(parts[0])
	case "subscribe":
		return m.subscribe(parts[0], parts[1])
	case "put":
		return m.put(parts[0], parts[1])
	case "move":
		return m.move(parts[0], parts[1], parts[2])
	}
	return api.OK
}

func (m *model) line(f api.CodeFrame) (api.CodeLine, api.Errno) {
	wave, _ := code.WaveOf(m.net.Code)
	return code.Compressed(f, wave)
}

func (m *model) soundNamed(name string) *api.ServiceSound {
	for i := range m.state.Sounds {
		if m.state.Sounds[i].Name == name {
			return &m.state.Sounds[i]
		}
	}
	return nil
}

func (m *model) gramNamed(name string) *api.ServiceGram {
	for i := range m.state.Grams {
		if m.state.Grams[i].Name == name {
			return &m.state.Grams[i]
		}
	}
	return nil
}

func (m *model) clientNamed(name string) *api.ServiceClient {
	for i := range m.state.Clients {
		if m.state.Clients[i].Name == name {
			return &m.state.Clients[i]
		}
	}
	return nil
}

func (m *model) warningNamed(name string) *api.ServiceWarning {
	for i := range m.state.Warnings {
		if m.state.Warnings[i].Name == name {
			return &m.state.Warnings[i]
		}
	}
	return nil
}

func (m *model) sound(name, station, rest string) api.Errno {
	if !nameForm.MatchString(name) {
		return api.ErrName
	}
	if m.soundNamed(name) != nil {
		return api.ErrExists
	}
	if !slices.Contains(m.net.Stations, station) {
		return api.ErrMissing
	}
	frame, e := code.ParseFrame(rest)
	if e != api.OK {
		return e
	}
	if _, e := m.line(frame); e != api.OK {
		return e
	}
	if len(m.state.Sounds) >= 8 {
		return api.ErrFull
	}
	m.state.Sounds = append(m.state.Sounds, api.ServiceSound{Name: name, Station: station, Frames: []api.CodeFrame{frame}})
	return api.OK
}

func (m *model) pair(name, rest string) api.Errno {
	s := m.soundNamed(name)
	if s == nil {
		return api.ErrMissing
	}
	if len(s.Frames) == 2 {
		return api.ErrState
	}
	frame, e := code.ParseFrame(rest)
	if e != api.OK {
		return e
	}
	if _, e := m.line(frame); e != api.OK {
		return e
	}
	if len(frame.Samples) != len(s.Frames[0].Samples) {
		return api.ErrClash
	}
	s.Frames = append(s.Frames, frame)
	return api.OK
}

func (m *model) gram(name, station, rest string) api.Errno {
	if !nameForm.MatchString(name) {
		return api.ErrName
	}
	if m.gramNamed(name) != nil {
		return api.ErrExists
	}
	if !slices.Contains(m.net.Stations, station) {
		return api.ErrMissing
	}
	g, e := trace.ParseGram(rest)
	if e != api.OK {
		return e
	}
	if len(m.state.Grams) >= 6 {
		return api.ErrFull
	}
	m.state.Grams = append(m.state.Grams, api.ServiceGram{Name: name, Station: station, Gram: g})
	return api.OK
}

// found returns the cheapest trace of an ionogram.
func (m *model) found(g api.TraceGram) api.TracePath {
	r := api.TraceRules{Tag: api.TraceOrdinary, Miss: m.net.Reading.Miss, Jump: m.net.Reading.Jump, Limit: m.net.Reading.Limit, From: 0, To: len(g.Columns) - 1}
	p, _, e := trace.Cheapest(g, r)
	if e != api.OK {
		panic(e)
	}
	return p
}

func (m *model) edit(name, rest, by string) api.Errno {
	g := m.gramNamed(name)
	if g == nil {
		return api.ErrMissing
	}
	edit, e := trace.ParseEdit(rest)
	if e != api.OK {
		return e
	}
	if edit.By != by {
		return api.ErrClash
	}
	all := append(slices.Clone(g.Edits), edit)
	if _, e := trace.CheckEdits(all); e != api.OK {
		return e
	}
	if _, e := trace.Corrected(g.Gram, m.found(g.Gram), all); e != api.OK {
		return e
	}
	g.Edits = all
	return api.OK
}

func (m *model) pathOf(g *api.ServiceGram) api.TracePath {
	p, e := trace.Corrected(g.Gram, m.found(g.Gram), g.Edits)
	if e != api.OK {
		panic(e)
	}
	return p
}

// traceOf builds the trace from the rows of the path.
func (m *model) traceOf(g *api.ServiceGram) api.ProfileTrace {
	var x api.ProfileTrace
	for column, row := range m.pathOf(g).Rows {
		if row >= 0 {
			low := m.net.Reading.Base + m.net.Reading.Row*row
			x.Points = append(x.Points, api.ProfilePoint{
				Frequency: g.Gram.First + column*g.Gram.Step,
				Pixel:     api.Range{Lo: low, Hi: low + m.net.Reading.Row},
			})
		}
	}
	return x
}

func (m *model) invert(name string) api.Errno {
	g := m.gramNamed(name)
	if g == nil {
		return api.ErrMissing
	}
	x := m.traceOf(g)
	p, _, e := profile.Fitted(x)
	if e != api.OK {
		return e
	}
	made := api.ServiceProduct{Station: g.Station, Version: 1, Gram: name, Profile: p}
	i := slices.IndexFunc(m.state.Products, func(p api.ServiceProduct) bool { return p.Station == g.Station })
	if i < 0 {
		m.state.Products = append(m.state.Products, made)
	} else {
		made.Version = m.state.Products[i].Version + 1
		m.state.Products[i] = made
	}
	answers, _ := profile.AgreesWith(p, x)
	m.made, m.fits = append(m.made, made), append(m.fits, !slices.Contains(answers, api.AnswerNo))
	return api.OK
}

func (m *model) value(name, number string) api.Errno {
	w := m.warningNamed(name)
	n, _ := strconv.Atoi(number)
	switch {
	case w == nil:
		return api.ErrMissing
	case n < -1000000 || n > 1000000:
		return api.ErrRange
	case len(w.Values) >= 40:
		return api.ErrFull
	}
	w.Values = append(w.Values, n)
	return api.OK
}

func (m *model) client(name string) api.Errno {
	switch {
	case !nameForm.MatchString(name):
		return api.ErrName
	case m.clientNamed(name) != nil:
		return api.ErrExists
	case len(m.state.Clients) >= 6:
		return api.ErrFull
	}
	m.state.Clients = append(m.state.Clients, api.ServiceClient{Name: name})
	return api.OK
}

func (m *model) subscribe(name, topic string) api.Errno {
	c := m.clientNamed(name)
	switch {
	case c == nil:
		return api.ErrMissing
	case m.warningNamed(topic) == nil:
		return api.ErrMissing
	case slices.Contains(c.Topics, topic):
		return api.ErrDouble
	}
	c.Topics = append(c.Topics, topic)
	return api.OK
}

// warningOf returns the state of a warning, and the number of its events.
func (m *model) warningOf(w *api.ServiceWarning) (api.WarnState, int) {
	var rules api.WarnRules
	for _, text := range m.net.Warnings {
		if strings.HasPrefix(text, w.Name+" ") {
			rules, _ = warn.ParseRules(text)
		}
	}
	s, e := warn.StateOf(rules, w.Values)
	if e != api.OK {
		panic(e)
	}
	events, _ := warn.EventsOf(rules, w.Values)
	return s, len(events)
}

func (m *model) put(name, topic string) api.Errno {
	c, w := m.clientNamed(name), m.warningNamed(topic)
	if c == nil || w == nil {
		return api.ErrMissing
	}
	s, _ := m.warningOf(w)
	switch {
	case !slices.Contains(c.Topics, topic):
		return api.ErrRefused
	case s.Version == 0:
		return api.ErrGap
	}
	message := api.WarnMessage{Warning: topic, Version: s.Version, Level: s.Level}
	link, e := warn.Moved(c.Link, api.WarnMove{Kind: api.WarnPut, Message: message})
	if e != api.OK {
		return e
	}
	c.Link = link
	m.puts[name] = append(m.puts[name], message)
	return api.OK
}

func (m *model) move(name, kind, index string) api.Errno {
	c := m.clientNamed(name)
	if c == nil {
		return api.ErrMissing
	}
	var x api.WarnMove
	x.Index, _ = strconv.Atoi(index)
	switch kind {
	case "send":
		x.Kind = api.WarnSend
	case "lose":
		x.Kind = api.WarnLose
	case "copy":
		x.Kind = api.WarnCopy
	case "take":
		x.Kind = api.WarnTake
	default:
		return api.ErrSyntax
	}
	link, e := warn.Moved(c.Link, x)
	if e != api.OK {
		return e
	}
	c.Link = link
	return api.OK
}

// echoesOf returns the echoes of a sounding of the state.
func (m *model) echoesOf(s *api.ServiceSound) ([]api.EchoItem, api.Errno) {
	if len(s.Frames) == 1 {
		return nil, api.ErrGap
	}
	rules, _ := echo.ParseRules(m.net.Echo)
	first, _ := m.line(s.Frames[0])
	second, _ := m.line(s.Frames[1])
	return echo.EchoesOf(rules, api.EchoFrame{First: first.Values, Second: second.Values})
}

// productsOf returns all products of a station.
func (m *model) productsOf(station string) []api.ServiceProduct {
	return slices.DeleteFunc(slices.Clone(m.made), func(p api.ServiceProduct) bool { return p.Station != station })
}

func (m *model) skyOver(station string) (api.RaySky, api.Errno) {
	list := m.productsOf(station)
	if len(list) == 0 {
		return api.RaySky{}, api.ErrGap
	}
	p := list[len(list)-1].Profile
	sky := api.RaySky{Height: p.Base}
	for _, slab := range p.Slabs {
		if slab.Thickness != 0 {
			sky.Slabs = append(sky.Slabs, api.RaySlab{Thickness: slab.Thickness, Square: slab.Square})
		}
	}
	if _, e := ray.CheckSky(sky); e != api.OK {
		return api.RaySky{}, e
	}
	return sky, api.OK
}

// sumByDefinition is the number after times 149 to the power of the length, and so on, in whole numbers of any size.
func sumByDefinition(s string, after int) int {
	sum := big.NewInt(int64(after))
	for i := range len(s) {
		sum.Mul(sum, big.NewInt(149))
		sum.Add(sum, big.NewInt(int64(s[i])+1))
	}
	return int(sum.Mod(sum, big.NewInt(1000037)).Int64())
}

// linesByDefinition returns the lines of entries, which need not be valid.
func linesByDefinition(l []api.ServiceEntry) []string {
	var lines []string
	sum := 0
	for _, x := range l {
		text := fmt.Sprintf("%d %s %s", x.At, x.By, x.Text)
		sum = sumByDefinition(text, sum)
		lines = append(lines, fmt.Sprintf("%s %d\n", text, sum))
	}
	return lines
}
