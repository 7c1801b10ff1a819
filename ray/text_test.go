package ray

import (
	"math"
	"regexp"
	"strings"
	"testing"

	"skywave/api"
)

const exampleText = "100 50x90000 50x360000 50x810000"

var skyForm = regexp.MustCompile(`^(0|[1-9][0-9]{0,6})( (0|[1-9][0-9]{0,6})x(0|[1-9][0-9]{0,6}))*$`)

// P5.7

func TestFormatSky(t *testing.T) {
	for _, x := range []struct {
		s    api.RaySky
		text string
	}{
		{exampleSky(), exampleText},
		{simpleSky(), "100 50x810000"},
		{api.RaySky{}, "0"},
		{sky(-7), "-7"},
		{sky(math.MinInt, math.MaxInt, -1), "-9223372036854775808 9223372036854775807x-1"},
		{sky(0, make([]int, 60)...), "0" + strings.Repeat(" 0x0", 30)},
	} {
		want(t, "FormatSky", FormatSky(x.s), x.text)
	}
}

func TestParseSky(t *testing.T) {
	for _, x := range []struct {
		text string
		s    api.RaySky
	}{
		{exampleText, exampleSky()},
		{"1 1x0", sky(1, 1, 0)},
		{"500 500x9000000", sky(500, 500, 9000000)},
		{"7" + strings.Repeat(" 3x0", 12), sky(7, 3, 0, 3, 0, 3, 0, 3, 0, 3, 0, 3, 0, 3, 0, 3, 0, 3, 0, 3, 0, 3, 0, 3, 0)},
	} {
		s, e := ParseSky(x.text)
		want(t, "ParseSky", results(s, e), results(x.s, api.OK))
	}
	for _, x := range []struct {
		text string
		e    api.Errno
	}{
		{"", api.ErrSyntax},
		{" ", api.ErrSyntax},
		{"x", api.ErrSyntax},
		{"1x1", api.ErrSyntax},
		{"100 ", api.ErrSyntax},
		{" 100 50x1", api.ErrSyntax},
		{"100 50x1 ", api.ErrSyntax},
		{"100  50x1", api.ErrSyntax},
		{"100 50", api.ErrSyntax},
		{"100 50x", api.ErrSyntax},
		{"100 x1", api.ErrSyntax},
		{"100 x", api.ErrSyntax},
		{"100 50x1x1", api.ErrSyntax},
		{"100 50xx1", api.ErrSyntax},
		{"100 50X1", api.ErrSyntax},
		{"100 50 x1", api.ErrSyntax},
		{"100 50x 1", api.ErrSyntax},
		{"100;50x1", api.ErrSyntax},
		{"100\t50x1", api.ErrSyntax},
		{"100 50x1\n", api.ErrSyntax},
		{"-100 50x1", api.ErrSyntax},
		{"+100 50x1", api.ErrSyntax},
		{"-0 50x1", api.ErrSyntax},
		{"0100 50x1", api.ErrSyntax},
		{"00 50x1", api.ErrSyntax},
		{"100 050x1", api.ErrSyntax},
		{"100 50x01", api.ErrSyntax},
		{"100 50x00", api.ErrSyntax},
		{"100 -50x1", api.ErrSyntax},
		{"100 50x-1", api.ErrSyntax},
		{"100 50x+1", api.ErrSyntax},
		{"100 50x-0", api.ErrSyntax},
		{"100 50x1_0", api.ErrSyntax},
		{"100 50x1.0", api.ErrSyntax},
		{"100 0x1f", api.ErrSyntax},
		{"10000000 50x1", api.ErrSyntax},
		{"100 10000000x1", api.ErrSyntax},
		{"100 50x10000000", api.ErrSyntax},
		{"100 50x99999999999999999999", api.ErrSyntax},
		{"9999999 1x1 x", api.ErrSyntax},
		{"501" + strings.Repeat(" 1x0", 13) + " ", api.ErrSyntax},
		{strings.Repeat("1", 70000), api.ErrSyntax},
		{"100", api.ErrShape},
		{"0", api.ErrRange},
		{"501", api.ErrRange},
		{"9999999 1x1", api.ErrRange},
		{"0 50x1", api.ErrRange},
		{"100 0x1", api.ErrRange},
		{"100 501x1", api.ErrRange},
		{"100 9999999x1", api.ErrRange},
		{"100 50x9000001", api.ErrRange},
		{"100 50x9999999", api.ErrRange},
		{"100" + strings.Repeat(" 1x0", 13), api.ErrLarge},
		{"100" + strings.Repeat(" 0x0", 13), api.ErrLarge},
		{"501" + strings.Repeat(" 1x0", 13), api.ErrRange},
		{"100" + strings.Repeat(" 1x0", 20000), api.ErrLarge},
		{"501" + strings.Repeat(" 1x0", 20000), api.ErrRange},
	} {
		s, e := ParseSky(x.text)
		refused(t, "ParseSky of "+start(x.text), x.e, s.Height, s.Slabs, e)
	}
}

func TestParseByForm(t *testing.T) {
	list := append(manyTexts(exampleText), manyTexts("7 1000000x0 0x9")...)
	for _, text := range append(list, manyTexts("500 500x9000000")...) {
		s, e := ParseSky(text)
		if (e == api.ErrSyntax) == skyForm.MatchString(text) {
			t.Errorf("ParseSky of %q: %d", text, e)
		}
		if e == api.OK && FormatSky(s) != text {
			t.Errorf("ParseSky of %q: %s", text, FormatSky(s))
		}
	}
}

// Strings of skies that are refused are refused with the same errors.
func TestParseBadSkies(t *testing.T) {
	for _, x := range badSkies() {
		text := FormatSky(x.s)
		expected := x.e
		if !skyForm.MatchString(text) {
			expected = api.ErrSyntax
		}
		s, e := ParseSky(text)
		refused(t, "ParseSky of "+start(text), expected, s.Height, s.Slabs, e)
	}
}

// P5.15

func TestParseReversesFormat(t *testing.T) {
	for _, s := range goodSkies() {
		again, e := ParseSky(FormatSky(s))
		want(t, "ParseSky of FormatSky", results(again, e), results(s, api.OK))
	}
}
