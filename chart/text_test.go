package chart

import (
	"fmt"
	"math"
	"regexp"
	"strings"
	"testing"

	"skywave/api"
)

var (
	stationForm = regexp.MustCompile(`^[^ ]+( (0|[1-9][0-9]{0,4})){2}( (0|-?[1-9][0-9]{0,4})){2} (0|[1-9][0-9]{0,4})$`)
	contourForm = regexp.MustCompile(`^(0|[1-9][0-9]?) (0|[1-9][0-9]?) [ruld]+$`)
)

// P6.8

func TestFormatStation(t *testing.T) {
	for _, x := range []struct {
		s    api.ChartStation
		text string
	}{
		{exampleStations()[1], "b 3 0 40 43 5"},
		{api.ChartStation{}, " 0 0 0 0 0"},
		{station("no name ", -1, -2, -3, -4, -5), "no name  -1 -2 -3 -4 -5"},
		{station("a", math.MinInt, math.MaxInt, 0, math.MinInt, math.MaxInt), "a -9223372036854775808 9223372036854775807 0 -9223372036854775808 9223372036854775807"},
	} {
		want(t, "FormatStation", FormatStation(x.s), x.text)
	}
}

func TestFormatContour(t *testing.T) {
	for _, x := range []struct {
		c    []api.ChartPlace
		text string
	}{
		{nil, ""},
		{[]api.ChartPlace{}, ""},
		{square(0, 0), "0 0 ruld"},
		{places(1, 1, 1, 2, 2, 2, 2, 1), "1 1 urdl"},
		{places(5, -7), "5 -7 ?"},
		{places(5, 7, 6, 7), "5 7 rl"},
		{places(5, 7, 5, 6), "5 7 du"},
		{places(5, 7, 7, 7), "5 7 ??"},
		{places(5, 7, 6, 8), "5 7 ??"},
		{places(5, 7, 4, 8, 4, 7), "5 7 ?dr"},
		{places(5, 7, 5, 7, 5, 8, 5, 9), "5 7 ?uu?"},
		{places(-1, 0, -1, 1, 0, 1, 0, 0), "-1 0 urdl"},
		{places(math.MaxInt, 0, math.MinInt, 0), "9223372036854775807 0 ??"},
		{places(0, math.MinInt, 0, math.MaxInt), "0 -9223372036854775808 ??"},
		{places(math.MaxInt, math.MinInt, math.MaxInt-1, math.MinInt), "9223372036854775807 -9223372036854775808 lr"},
		{places(math.MaxInt, math.MinInt, math.MaxInt, math.MinInt+1), "9223372036854775807 -9223372036854775808 ud"},
		{places(0, 0, 1<<32+1, 0, 1, 0), "0 0 ??l"},
		{longContour(), "0 0 " + strings.Repeat("r", 30) + "u" + strings.Repeat("l", 30) + strings.Repeat("ud", 69) + "d"},
		{make([]api.ChartPlace, 3000), "0 0 " + strings.Repeat("?", 3000)},
	} {
		want(t, "FormatContour", FormatContour(x.c), x.text)
	}
}

func TestParseStation(t *testing.T) {
	for _, x := range []struct {
		text string
		s    api.ChartStation
	}{
		{"b 3 0 40 43 5", exampleStations()[1]},
		{"a 0 0 0 0 0", station("a", 0, 0, 0, 0, 0)},
		{"Abcdefghij-9 30 29 -10000 10000 9", station("Abcdefghij-9", 30, 29, -10000, 10000, 9)},
		{"z 0 30 -7 -7 1", station("z", 0, 30, -7, -7, 1)},
	} {
		s, e := ParseStation(x.text)
		want(t, "ParseStation", results(s, e), results(x.s, api.OK))
	}
	for _, x := range []struct {
		text string
		e    api.Errno
	}{
		{"", api.ErrSyntax},
		{" ", api.ErrSyntax},
		{"b", api.ErrSyntax},
		{"b 3 0 40 43", api.ErrSyntax},
		{"b 3 0 40 43 5 1", api.ErrSyntax},
		{"b 3 0 40 43 5 ", api.ErrSyntax},
		{" b 3 0 40 43 5", api.ErrSyntax},
		{" 3 0 40 43 5", api.ErrSyntax},
		{"b  0 40 43 5", api.ErrSyntax},
		{"b 3 0 40 43 ", api.ErrSyntax},
		{"b 3 0  40 43 5", api.ErrSyntax},
		{"b 3 0 40 43 5\n", api.ErrSyntax},
		{"b\t3 0 40 43 5", api.ErrSyntax},
		{"b -3 0 40 43 5", api.ErrSyntax},
		{"b 3 -1 40 43 5", api.ErrSyntax},
		{"b 3 0 40 43 -5", api.ErrSyntax},
		{"b -0 0 40 43 5", api.ErrSyntax},
		{"b 3 0 -0 43 5", api.ErrSyntax},
		{"b 3 0 -1 -0 5", api.ErrSyntax},
		{"b 3 0 +40 43 5", api.ErrSyntax},
		{"b 3 0 40 043 5", api.ErrSyntax},
		{"b 3 00 40 43 5", api.ErrSyntax},
		{"b 3 0 -040 43 5", api.ErrSyntax},
		{"b 3 0 --4 43 5", api.ErrSyntax},
		{"b 3 0 - 43 5", api.ErrSyntax},
		{"b 3 0 4_0 43 5", api.ErrSyntax},
		{"b 3 0 40 43 a", api.ErrSyntax},
		{"b 3 0 40 4.0 5", api.ErrSyntax},
		{"b 100000 0 40 43 5", api.ErrSyntax},
		{"b 3 100000 40 43 5", api.ErrSyntax},
		{"b 3 0 -100000 43 5", api.ErrSyntax},
		{"b 3 0 40 100000 5", api.ErrSyntax},
		{"b 3 0 40 43 100000", api.ErrSyntax},
		{"b 3 0 40 43 99999999999999999999", api.ErrSyntax},
		{"b 3 0 40 " + strings.Repeat("4", 70000) + " 5", api.ErrSyntax},
		{"7 99999 0 40 43 x", api.ErrSyntax},
		{"7 3 0 40 43 5", api.ErrName},
		{"3 99999 0 40 43 5", api.ErrName},
		{"b\t 3 0 40 43 5", api.ErrName},
		{strings.Repeat("b", 70000) + " 3 0 40 43 5", api.ErrName},
		{"abcdefghijklm 99 0 40 43 5", api.ErrName},
		{"b 31 0 40 43 5", api.ErrRange},
		{"b 99999 0 43 40 5", api.ErrRange},
		{"b 3 31 43 40 5", api.ErrRange},
		{"b 3 0 -10001 43 5", api.ErrRange},
		{"b 3 0 -99999 -99999 5", api.ErrRange},
		{"b 3 0 40 10001 5", api.ErrRange},
		{"b 3 0 99999 43 5", api.ErrRange},
		{"b 3 0 43 40 5", api.ErrOrder},
		{"b 3 0 43 40 10", api.ErrOrder},
		{"b 3 0 -43 -44 0", api.ErrOrder},
		{"b 3 0 40 43 10", api.ErrRange},
	} {
		s, e := ParseStation(x.text)
		refused(t, "ParseStation of "+start(x.text), x.e, s, e)
	}
}

func TestParseContour(t *testing.T) {
	for _, x := range []struct {
		text string
		c    []api.ChartPlace
	}{
		{"0 0 ruld", square(0, 0)},
		{"29 29 ruld", square(29, 29)},
		{"1 1 urdl", places(1, 1, 1, 2, 2, 2, 2, 1)},
		{"30 30 llrr", places(30, 30, 29, 30, 28, 30, 29, 30)},
		{"30 0 uddu", nil},
		{"7 9 dudu", places(7, 9, 7, 8, 7, 9, 7, 8)},
		{FormatContour(longContour()), longContour()},
	} {
		c, e := ParseContour(x.text)
		if x.c == nil {
			refused(t, "ParseContour of "+x.text, api.ErrRange, c, e)
			continue
		}
		want(t, "ParseContour", results(c, e), results(x.c, api.OK))
	}
	for _, x := range []struct {
		text string
		e    api.Errno
	}{
		{strings.Repeat("x", 60001), api.ErrLarge},
		{"0 0 " + strings.Repeat("r", 59997), api.ErrLarge},
		{"0 0 " + strings.Repeat("rl", 30000), api.ErrLarge},
		{strings.Repeat("x", 60000), api.ErrSyntax},
		{"0 0 " + strings.Repeat("r", 59995) + "x", api.ErrSyntax},
		{"0 0 " + strings.Repeat("r", 59996), api.ErrOpen},
		{"0 0 " + strings.Repeat("rl", 29998), api.ErrLarge},
		{"0 0 " + strings.Repeat("lr", 101), api.ErrLarge},
		{"0 0 " + strings.Repeat("rl", 101), api.ErrLarge},
		{"", api.ErrSyntax},
		{"0 0", api.ErrSyntax},
		{"0 0 ", api.ErrSyntax},
		{"0 ruld", api.ErrSyntax},
		{"0 0 ruld ", api.ErrSyntax},
		{" 0 0 ruld", api.ErrSyntax},
		{"0  0 ruld", api.ErrSyntax},
		{"0 0 ru ld", api.ErrSyntax},
		{"0 0 ruld 0", api.ErrSyntax},
		{" 0 ruld", api.ErrSyntax},
		{"0 0 ruld\n", api.ErrSyntax},
		{"0 0 ruld?", api.ErrSyntax},
		{"0 0 ????", api.ErrSyntax},
		{"0 0 Ruld", api.ErrSyntax},
		{"0 0 ru\x00d", api.ErrSyntax},
		{"0 0 ruéd", api.ErrSyntax},
		{"-1 0 ruld", api.ErrSyntax},
		{"0 -1 ruld", api.ErrSyntax},
		{"-0 0 ruld", api.ErrSyntax},
		{"0 +1 ruld", api.ErrSyntax},
		{"00 0 ruld", api.ErrSyntax},
		{"0 01 ruld", api.ErrSyntax},
		{"100 0 ruld", api.ErrSyntax},
		{"0 100 ruld", api.ErrSyntax},
		{"0 1_ ruld", api.ErrSyntax},
		{"a 0 ruld", api.ErrSyntax},
		{"0 b ruld", api.ErrSyntax},
		{"0 0 rull", api.ErrOpen},
		{"0 0 r", api.ErrOpen},
		{"0 0 rul", api.ErrOpen},
		{"0 0 rru", api.ErrOpen},
		{"99 99 r", api.ErrOpen},
		{"99 0 ruldr", api.ErrOpen},
		{"0 0 ruldu", api.ErrOpen},
		{"0 0 " + strings.Repeat("r", 201), api.ErrOpen},
		{"0 0 rl", api.ErrShape},
		{"99 99 du", api.ErrShape},
		{"0 0 drul", api.ErrRange},
		{"0 0 ldru", api.ErrRange},
		{"30 30 ruld", api.ErrRange},
		{"31 0 ruld", api.ErrRange},
		{"0 31 ruld", api.ErrRange},
		{"99 99 ruld", api.ErrRange},
		{"28 0 rrrlll", api.ErrRange},
		{"0 28 uuuddd", api.ErrRange},
	} {
		c, e := ParseContour(x.text)
		refused(t, "ParseContour of "+start(x.text), x.e, c, e)
	}
}

func TestParseStationByForm(t *testing.T) {
	list := append(manyTexts("b 3 0 40 43 5"), manyTexts("Z-9 30 17 -10000 -9999 0")...)
	for _, text := range append(list, manyTexts("ab 0 7 -1 99999 12345")...) {
		s, e := ParseStation(text)
		if (e == api.ErrSyntax) == stationForm.MatchString(text) {
			t.Errorf("ParseStation of %q: %d", text, e)
		}
		if e == api.OK && FormatStation(s) != text {
			t.Errorf("ParseStation of %q: %s", text, FormatStation(s))
		}
	}
}

func TestParseContourByForm(t *testing.T) {
	list := append(manyTexts("0 0 ruld"), manyTexts("29 17 ulrd")...)
	for _, text := range append(list, manyTexts("10 99 rrulld")...) {
		c, e := ParseContour(text)
		if (e == api.ErrSyntax) == contourForm.MatchString(text) {
			t.Errorf("ParseContour of %q: %d", text, e)
		}
		if e == api.OK && FormatContour(c) != text {
			t.Errorf("ParseContour of %q: %s", text, FormatContour(c))
		}
	}
}

// Strings of stations and polygons that are refused are refused with the same errors.
func TestParseWhatIsRefused(t *testing.T) {
	for _, x := range badStations() {
		if len(x.l) != 5 || x.index > 0 {
			continue
		}
		text := FormatStation(x.l[0])
		expected := x.e
		if !stationForm.MatchString(text) {
			expected = api.ErrSyntax
		}
		s, e := ParseStation(text)
		refused(t, "ParseStation of "+start(text), expected, s, e)
	}
	for _, x := range badContours() {
		text := FormatContour(x.c)
		expected := x.e
		if !contourForm.MatchString(text) && len(text) <= 60000 {
			expected = api.ErrSyntax
		}
		c, e := ParseContour(text)
		refused(t, "ParseContour of "+start(text), expected, c, e)
	}
}

// P6.16

func TestParseReversesFormat(t *testing.T) {
	for _, l := range goodStations() {
		for _, s := range l {
			again, e := ParseStation(FormatStation(s))
			want(t, "ParseStation of FormatStation", results(again, e), results(s, api.OK))
		}
	}
	contours := goodContours()
	for _, region := range manyRegions()[:3000] {
		list, _ := ContoursOf(region, 1)
		contours = append(contours, list...)
	}
	for _, c := range contours {
		again, e := ParseContour(FormatContour(c))
		want(t, fmt.Sprint("ParseContour of FormatContour ", c), results(again, e), results(c, api.OK))
	}
}
