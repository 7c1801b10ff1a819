package profile

import (
	"math"
	"regexp"
	"strings"
	"testing"

	"skywave/api"
)

const (
	exampleSkyText   = "100;90000 20;250000 10"
	exampleTraceText = "0 0;300 100 100;500 125 125"
)

var (
	skyForm   = regexp.MustCompile(`^(0|[1-9][0-9]{0,6})(;(0|[1-9][0-9]{0,6}) (0|[1-9][0-9]{0,6}))*$`)
	traceForm = regexp.MustCompile(`^(0|[1-9][0-9]{0,6}) (0|[1-9][0-9]{0,6})(;(0|[1-9][0-9]{0,6})( (0|[1-9][0-9]{0,6})){2})*$`)
)

// P4.6

func TestFormatProfile(t *testing.T) {
	for _, x := range []struct {
		p api.ProfileSky
		s string
	}{
		{exampleSky(), exampleSkyText},
		{api.ProfileSky{}, "0"},
		{sky(-7), "-7"},
		{sky(math.MinInt, math.MaxInt, -1), "-9223372036854775808;9223372036854775807 -1"},
		{sky(0, make([]int, 60)...), "0" + strings.Repeat(";0 0", 30)},
	} {
		want(t, "FormatProfile", FormatProfile(x.p), x.s)
	}
}

func TestFormatTrace(t *testing.T) {
	for _, x := range []struct {
		t api.ProfileTrace
		s string
	}{
		{traced(300, 100, 100, 500, 125, 125), exampleTraceText},
		{api.ProfileTrace{}, "0 0"},
		{withValley(traced(), -1, math.MinInt), "-1 -9223372036854775808"},
		{withValley(traced(1, 2, 3), 4, 5), "4 5;1 2 3"},
		{withValley(traced(math.MaxInt, math.MinInt, -3), 7, 8), "7 8;9223372036854775807 -9223372036854775808 -3"},
		{api.ProfileTrace{Points: make([]api.ProfilePoint, 30)}, "0 0" + strings.Repeat(";0 0 0", 30)},
	} {
		want(t, "FormatTrace", FormatTrace(x.t), x.s)
	}
}

func TestParseProfile(t *testing.T) {
	p, e := ParseProfile(exampleSkyText)
	want(t, "ParseProfile", results(p, e), results(exampleSky(), api.OK))
	p, e = ParseProfile("0;9000000 500")
	want(t, "ParseProfile", results(p, e), results(sky(0, 9000000, 500), api.OK))
	p, e = ParseProfile("500" + strings.Repeat(";0 0", 12))
	want(t, "ParseProfile", results(p, e), results(sky(500, make([]int, 24)...), api.OK))
	for _, x := range []struct {
		s string
		e api.Errno
	}{
		{"", api.ErrSyntax},
		{";", api.ErrSyntax},
		{"100;", api.ErrSyntax},
		{"100;1", api.ErrSyntax},
		{"100;1 ", api.ErrSyntax},
		{"100;1  1", api.ErrSyntax},
		{"100;1 1 1", api.ErrSyntax},
		{"100; 1 1", api.ErrSyntax},
		{"100 ;1 1", api.ErrSyntax},
		{"100 1", api.ErrSyntax},
		{"100;1 1;", api.ErrSyntax},
		{"100;1 1;;1 1", api.ErrSyntax},
		{";1 1", api.ErrSyntax},
		{"1 1;1 1", api.ErrSyntax},
		{"-1;1 1", api.ErrSyntax},
		{"+1;1 1", api.ErrSyntax},
		{"-0;1 1", api.ErrSyntax},
		{"01;1 1", api.ErrSyntax},
		{"00;1 1", api.ErrSyntax},
		{"1;1 01", api.ErrSyntax},
		{"1;-1 1", api.ErrSyntax},
		{"1;1 1\n", api.ErrSyntax},
		{"1;1\t1", api.ErrSyntax},
		{"1;1 1_0", api.ErrSyntax},
		{"1;0x1 1", api.ErrSyntax},
		{"1;1.0 1", api.ErrSyntax},
		{"10000000;1 1", api.ErrSyntax},
		{"1;10000000 1", api.ErrSyntax},
		{"1;1 10000000", api.ErrSyntax},
		{"1;1 99999999999999999999", api.ErrSyntax},
		{"9999999;1 1;x", api.ErrSyntax},
		{"100", api.ErrShape},
		{"501", api.ErrRange},
		{"501;1 1", api.ErrRange},
		{"9999999;1 1", api.ErrRange},
		{"100;9000001 1", api.ErrRange},
		{"100;9999999 9999999", api.ErrRange},
		{"100;1 501", api.ErrRange},
		{"100" + strings.Repeat(";0 0", 13), api.ErrLarge},
		{"501" + strings.Repeat(";0 0", 13), api.ErrRange},
		{strings.Repeat("x", 60000), api.ErrSyntax},
		{strings.Repeat("x", 60001), api.ErrLarge},
		{"1" + strings.Repeat(";0 0", 14999), api.ErrLarge},
		{"501" + strings.Repeat(";0 0", 14999), api.ErrRange},
		{"501;" + strings.Repeat(";0 0", 14999), api.ErrSyntax},
		{"5001;" + strings.Repeat(";0 0", 14999), api.ErrLarge},
	} {
		p, e := ParseProfile(x.s)
		refused(t, "ParseProfile of "+start(x.s), x.e, p.Base, p.Slabs, e)
	}
}

func TestParseTrace(t *testing.T) {
	x, e := ParseTrace(exampleTraceText)
	want(t, "ParseTrace", results(x, e), results(traced(300, 100, 100, 500, 125, 125), api.OK))
	x, e = ParseTrace("1 500;1 0 20000;3000 20000 20000")
	want(t, "ParseTrace", results(x, e), results(withValley(traced(1, 0, 20000, 3000, 20000, 20000), 1, 500), api.OK))
	for _, x := range []struct {
		s string
		e api.Errno
	}{
		{"", api.ErrSyntax},
		{"0", api.ErrSyntax},
		{"0 0 0", api.ErrSyntax},
		{"0 0;", api.ErrSyntax},
		{"0 0;300 1", api.ErrSyntax},
		{"0 0;300 1 1 1", api.ErrSyntax},
		{"0 0; 300 1 1", api.ErrSyntax},
		{"0 0 ;300 1 1", api.ErrSyntax},
		{"0 0;300 1 -1", api.ErrSyntax},
		{"0;300 1 1", api.ErrSyntax},
		{"0 0;300 1 1;", api.ErrSyntax},
		{"0 0;300  1", api.ErrSyntax},
		{"-1 0;300 1 1", api.ErrSyntax},
		{"0 0;300 1 01", api.ErrSyntax},
		{"0 0;300 1 10000000", api.ErrSyntax},
		{"0 0", api.ErrShape},
		{"9 501", api.ErrShape},
		{"0 501;300 1 1", api.ErrRange},
		{"1 501;300 1 1", api.ErrRange},
		{"1 0;300 1 1", api.ErrMissing},
		{"9999999 0;300 1 1", api.ErrMissing},
		{"0 0;0 1 1", api.ErrRange},
		{"0 0;3001 1 1", api.ErrRange},
		{"0 0;300 20001 20001", api.ErrRange},
		{"0 0;300 1 20001", api.ErrRange},
		{"0 0;300 2 1", api.ErrOrder},
		{"0 0;300 1 1;300 1 1", api.ErrOrder},
		{"0 0;300 1 1;299 1 1", api.ErrOrder},
		{"0 0" + strings.Repeat(";1 1 1", 9), api.ErrLarge},
		{strings.Repeat("0", 60000), api.ErrSyntax},
		{strings.Repeat("0", 60001), api.ErrLarge},
		{"111 00" + strings.Repeat(";1 1 1", 9999), api.ErrSyntax},
		{"111 11" + strings.Repeat(";1 1 1", 9999), api.ErrLarge},
		{"1111 00" + strings.Repeat(";1 1 1", 9999), api.ErrLarge},
	} {
		trace, e := ParseTrace(x.s)
		refused(t, "ParseTrace of "+start(x.s), x.e, trace.Points, trace.After, trace.Width, e)
	}
}

func TestParseByForm(t *testing.T) {
	for _, s := range append(manyTexts(exampleSkyText), manyTexts("7;1000000 0")...) {
		p, e := ParseProfile(s)
		if (e == api.ErrSyntax) == skyForm.MatchString(s) {
			t.Errorf("ParseProfile of %q: %d", s, e)
		}
		if e == api.OK && FormatProfile(p) != s {
			t.Errorf("ParseProfile of %q: %s", s, FormatProfile(p))
		}
	}
	for _, s := range append(manyTexts(exampleTraceText), manyTexts("0 1;7 0 10000")...) {
		x, e := ParseTrace(s)
		if (e == api.ErrSyntax) == traceForm.MatchString(s) {
			t.Errorf("ParseTrace of %q: %d", s, e)
		}
		if e == api.OK && FormatTrace(x) != s {
			t.Errorf("ParseTrace of %q: %s", s, FormatTrace(x))
		}
	}
}

// Strings of profiles and traces that are refused are refused with the same errors.
func TestParseBadValues(t *testing.T) {
	for _, x := range badSkies() {
		s := FormatProfile(x.p)
		if skyForm.MatchString(s) {
			p, e := ParseProfile(s)
			refused(t, "ParseProfile of "+start(s), x.e, p.Base, p.Slabs, e)
		}
	}
	for _, x := range badTraces() {
		s := FormatTrace(x.t)
		if traceForm.MatchString(s) {
			trace, e := ParseTrace(s)
			refused(t, "ParseTrace of "+start(s), x.e, trace.Points, trace.After, trace.Width, e)
		}
	}
}

// P4.13

func TestParseReversesFormat(t *testing.T) {
	for _, p := range goodSkies() {
		again, e := ParseProfile(FormatProfile(p))
		want(t, "ParseProfile of FormatProfile", results(again, e), results(p, api.OK))
	}
	for _, x := range goodTraces() {
		again, e := ParseTrace(FormatTrace(x))
		want(t, "ParseTrace of FormatTrace", results(again, e), results(x, api.OK))
	}
}
