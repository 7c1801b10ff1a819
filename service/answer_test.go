package service

import (
	"strconv"
	"strings"
	"testing"

	"skywave/api"
	"skywave/echo"
	"skywave/profile"
	"skywave/trace"
	"skywave/warn"
)

// answers checks the answer to a question.
func answers(t *testing.T, n api.ServiceNet, l []api.ServiceEntry, question, expected string, wrong api.Errno) {
	t.Helper()
	s, e := Answer(n, l, question)
	if s != expected || e != wrong {
		t.Errorf("Answer to %q: %q, %d, want %q, %d", start(question), s, e, expected, wrong)
	}
}

// P10.7

func TestAnswersOfExample(t *testing.T) {
	n, l := exampleNet(), exampleLog()
	for question, answer := range map[string]string{
		"count":         "20",
		"sounds":        "s1,s2",
		"grams":         "g1,g2",
		"clients":       "c,d",
		"stations":      "k",
		"echoes s1":     "1 1800 1 90 100",
		"path g1":       "0 0 0 1",
		"path g2":       "0 1",
		"profile k":     "100;40000 0;62500 28;90000 1",
		"version k":     "2",
		"warning storm": "2 2",
		"pending c":     "storm",
		"pending d":     "-",
	} {
		answers(t, n, l, question, answer, api.OK)
	}
	for question, answer := range map[string]string{
		"count": "0", "sounds": "-", "grams": "-", "clients": "-", "stations": "-", "warning storm": "0 0",
	} {
		answers(t, n, nil, question, answer, api.OK)
	}
	answers(t, n, l[:6], "path g1", "0 0 0 0", api.OK)
	answers(t, n, l[:9], "profile k", "150;90000 1", api.OK)
	answers(t, n, l[:9], "version k", "1", api.OK)
	answers(t, n, l[:12], "warning storm", "1 1", api.OK)
	answers(t, n, logOf("ola sound s k 0 20;0,0 0,0 0,0;", "ola pair s 0 20;0,0 0,0 0,0;"), "echoes s", "-", api.OK)
	answers(t, n, logOf("ola gram g k 100 10;0o", "mia edit g 1 r 0 0 mia"), "path g", "0 -1", api.OK)
}

func TestErrorsOfQuestions(t *testing.T) {
	n, l := fourNet(), exampleLog()
	for _, question := range []string{
		"", " ", "x", "count ", "count x", " count", "Count", "counts", "sounds ", "sounds s1", "grams g1", "clients c", "stations k", "sound s1", "gram g1", "client c",
		"echoes", "path", "profile", "version", "warning", "pending", " echoes s1", "Path g1", "paths g1", "echo s1", "products k", "state", "journal", "echoes\ts1", "count\n", "-",
		strings.Repeat("x", 60000), strings.Repeat(" ", 60000),
	} {
		answers(t, n, l, question, "", api.ErrSyntax)
	}
	for _, word := range []string{"echoes", "path", "profile", "version", "warning", "pending"} {
		for _, name := range badNames() {
			answers(t, n, l, word+" "+name, "", api.ErrName)
		}
		for _, name := range []string{" s1", "s1 ", "s1 s1", "g1 x", " k"} {
			answers(t, n, l, word+" "+name, "", api.ErrName)
		}
		for _, name := range []string{"none", "S1", "G1", "K", "Storm", "C", "ola"} {
			answers(t, n, l, word+" "+name, "", api.ErrMissing)
		}
	}
	// Names of other things.
	for _, question := range []string{"echoes g1", "path s1", "profile storm", "version c", "warning k", "pending storm"} {
		answers(t, n, l, question, "", api.ErrMissing)
	}
	for _, question := range []string{"echoes s2", "profile q", "version q"} {
		answers(t, n, l, question, "", api.ErrGap)
	}
	answers(t, n, l[:1], "profile k", "", api.ErrGap)
	answers(t, n, l[:1], "version k", "", api.ErrGap)
	answers(t, n, l[:2], "echoes s1", "", api.ErrGap)
}

func TestAnswersOfModel(t *testing.T) {
	for n, l := range manyLogs {
		m := modelOf(n, l)
		names := map[string][]string{}
		for i := range m.state.Sounds {
			s := &m.state.Sounds[i]
			names["sounds"] = append(names["sounds"], s.Name)
			echoes, e := m.echoesOf(s)
			answer := echo.FormatEchoes(echoes)
			if e != api.OK {
				answer = ""
			}
			answers(t, n, l, "echoes "+s.Name, answer, e)
		}
		for i := range m.state.Grams {
			g := &m.state.Grams[i]
			names["grams"] = append(names["grams"], g.Name)
			answers(t, n, l, "path "+g.Name, trace.FormatPath(m.pathOf(g)), api.OK)
		}
		for _, c := range m.state.Clients {
			names["clients"] = append(names["clients"], c.Name)
			pending, _ := warn.PendingIn(c.Link)
			answers(t, n, l, "pending "+c.Name, namesByDefinition(pending), api.OK)
		}
		for i := range m.state.Warnings {
			s, _ := m.warningOf(&m.state.Warnings[i])
			answers(t, n, l, "warning "+m.state.Warnings[i].Name, strconv.Itoa(s.Level)+" "+strconv.Itoa(s.Version), api.OK)
		}
		for _, station := range n.Stations {
			products := m.productsOf(station)
			if len(products) == 0 {
				answers(t, n, l, "profile "+station, "", api.ErrGap)
				answers(t, n, l, "version "+station, "", api.ErrGap)
				continue
			}
			names["stations"] = append(names["stations"], station)
			answers(t, n, l, "profile "+station, profile.FormatProfile(products[len(products)-1].Profile), api.OK)
			answers(t, n, l, "version "+station, strconv.Itoa(len(products)), api.OK)
		}
		answers(t, n, l, "count", strconv.Itoa(len(l)), api.OK)
		for _, question := range []string{"sounds", "grams", "clients", "stations"} {
			answers(t, n, l, question, namesByDefinition(names[question]), api.OK)
		}
	}
}

// namesByDefinition returns names with "," between, or "-" without names.
func namesByDefinition(names []string) string {
	s := ""
	for i, name := range names {
		if i > 0 {
			s += ","
		}
		s += name
	}
	if s == "" {
		return "-"
	}
	return s
}
