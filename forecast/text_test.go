package forecast

import (
	"math"
	"regexp"
	"strings"
	"testing"

	"skywave/api"
)

var recordForm = regexp.MustCompile(`^(0|[1-9][0-9]{0,4})( (0|[1-9][0-9]{0,4})){5}$`)

// P7.7

func TestFormatRecord(t *testing.T) {
	for _, x := range []struct {
		x    api.ForecastRecord
		text string
	}{
		{exampleRecords()[0], "2001 3 12 2 300 900"},
		{api.ForecastRecord{}, "0 0 0 0 0 0"},
		{record(-1, -2, -3, -4, -5, -6), "-1 -2 -3 -4 -5 -6"},
		{record(math.MinInt, math.MaxInt, 0, 100000, 7, math.MinInt), "-9223372036854775808 9223372036854775807 0 100000 7 -9223372036854775808"},
	} {
		want(t, "FormatRecord", FormatRecord(x.x), x.text)
	}
}

func TestParseRecord(t *testing.T) {
	for _, x := range []struct {
		text string
		x    api.ForecastRecord
	}{
		{"2001 3 12 2 300 900", exampleRecords()[0]},
		{"1 1 0 0 0 0", record(1, 1, 0, 0, 0, 0)},
		{"3000 12 23 9 3000 3000", record(3000, 12, 23, 9, 3000, 3000)},
		{"1 2 3 4 5 6", record(1, 2, 3, 4, 5, 6)},
	} {
		r, e := ParseRecord(x.text)
		want(t, "ParseRecord", results(r, e), results(x.x, api.OK))
	}
	for _, x := range []struct {
		text string
		e    api.Errno
	}{
		{"", api.ErrSyntax},
		{" ", api.ErrSyntax},
		{"     ", api.ErrSyntax},
		{"2001", api.ErrSyntax},
		{"2001 3 12 2 300", api.ErrSyntax},
		{"2001 3 12 2 300 ", api.ErrSyntax},
		{"2001 3 12 2 300 900 ", api.ErrSyntax},
		{" 2001 3 12 2 300 900", api.ErrSyntax},
		{"2001 3 12 2 300 900 1", api.ErrSyntax},
		{"2001  3 12 2 300 900", api.ErrSyntax},
		{"2001 3  12 2 300", api.ErrSyntax},
		{"2001\t3 12 2 300 900", api.ErrSyntax},
		{"2001 3 12 2 300 900\n", api.ErrSyntax},
		{"02001 3 12 2 300 900", api.ErrSyntax},
		{"2001 03 12 2 300 900", api.ErrSyntax},
		{"2001 3 12 2 00 900", api.ErrSyntax},
		{"2001 3 -0 2 300 900", api.ErrSyntax},
		{"2001 3 12 2 -1 900", api.ErrSyntax},
		{"-2001 3 12 2 300 900", api.ErrSyntax},
		{"+2001 3 12 2 300 900", api.ErrSyntax},
		{"2001 3 12 2 300 +900", api.ErrSyntax},
		{"2001 3 12 2 300 1e3", api.ErrSyntax},
		{"2001 3 12 2 300 0x3", api.ErrSyntax},
		{"2001 3 12 2 300 9_0", api.ErrSyntax},
		{"2001 3 12 2 300 900.", api.ErrSyntax},
		{"2001 3 12 2 300 ٣", api.ErrSyntax},
		{"2001 3 12 2 300 100000", api.ErrSyntax},
		{"100000 3 12 2 300 900", api.ErrSyntax},
		{"0 100000 12 2 300 900", api.ErrSyntax},
		{"2001 3 12 2 300 " + strings.Repeat("9", 70000), api.ErrSyntax},
		{"2001 3 12 2 300 9223372036854775808", api.ErrSyntax},
		{strings.Repeat(" ", 70000), api.ErrSyntax},
		{strings.Repeat("1 ", 70000), api.ErrSyntax},
		{"99999 3 12 2 300 900", api.ErrRange},
		{"0 3 12 2 300 900", api.ErrRange},
		{"3001 3 12 2 300 900", api.ErrRange},
		{"2001 0 12 2 300 900", api.ErrRange},
		{"2001 13 12 2 300 900", api.ErrRange},
		{"2001 3 24 2 300 900", api.ErrRange},
		{"2001 3 12 10 300 900", api.ErrRange},
		{"2001 3 12 2 3001 900", api.ErrRange},
		{"2001 3 12 2 300 3001", api.ErrRange},
		{"2001 3 12 2 300 99999", api.ErrRange},
		{"2001 3 12 10 900 300", api.ErrRange},
		{"2001 3 12 2 900 300", api.ErrOrder},
		{"2001 3 12 2 1 0", api.ErrOrder},
	} {
		r, e := ParseRecord(x.text)
		refused(t, "ParseRecord of "+start(x.text), x.e, r, e)
	}
}

func TestParseRecordByForm(t *testing.T) {
	list := append(manyTexts("2001 3 12 2 300 900"), manyTexts("1 10 0 9 0 99999")...)
	for _, text := range append(list, manyTexts("12345 0 23 7 3000 1")...) {
		r, e := ParseRecord(text)
		if (e == api.ErrSyntax) == recordForm.MatchString(text) {
			t.Errorf("ParseRecord of %q: %d", text, e)
		}
		if e == api.OK && FormatRecord(r) != text {
			t.Errorf("ParseRecord of %q: %s", text, FormatRecord(r))
		}
	}
}

// Strings of records that are refused are refused with the same errors.
func TestParseWhatIsRefused(t *testing.T) {
	for _, x := range badRecords() {
		if x.index > 0 || len(x.l) != 4 {
			continue
		}
		text := FormatRecord(x.l[0])
		expected := x.e
		if !recordForm.MatchString(text) {
			expected = api.ErrSyntax
		}
		r, e := ParseRecord(text)
		refused(t, "ParseRecord of "+text, expected, r, e)
	}
}

// P7.13

func TestParseReversesFormat(t *testing.T) {
	for _, l := range goodRecords() {
		for _, x := range l {
			again, e := ParseRecord(FormatRecord(x))
			want(t, "ParseRecord of FormatRecord", results(again, e), results(x, api.OK))
		}
	}
}
