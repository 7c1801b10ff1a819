package warn

import (
	"math"
	"regexp"
	"strings"
	"testing"

	"skywave/api"
)

var (
	rulesForm   = regexp.MustCompile(`^[^ ]* (0|[1-9][0-9]{0,6})( (0|-?[1-9][0-9]{0,6})/(0|-?[1-9][0-9]{0,6}))*$`)
	messageForm = regexp.MustCompile(`^[^ ]+ (0|[1-9][0-9]{0,6}) (0|[1-9][0-9]{0,6})$`)
)

// P8.6

func TestFormatRules(t *testing.T) {
	for _, x := range []struct {
		r    api.WarnRules
		text string
	}{
		{exampleRules(), "storm 2 50/40 80/65"},
		{rules("a", 1, -7, -8), "a 1 -7/-8"},
		{rules("a", 20, 1000000, -1000000), "a 20 1000000/-1000000"},
		{api.WarnRules{}, " 0"},
		{api.WarnRules{Name: "a b", Hold: -3}, "a b -3"},
		{api.WarnRules{Name: "a", Up: []int{1, 2}, Hold: 1}, "a 1 1/0 2/0"},
		{api.WarnRules{Name: "a", Down: []int{1, 2}, Hold: 1}, "a 1 0/1 0/2"},
		{api.WarnRules{Name: "a", Up: []int{7, 8, 9}, Down: []int{5}, Hold: 1}, "a 1 7/5 8/0 9/0"},
		{api.WarnRules{Name: "a", Up: []int{7}, Down: []int{5, 6, 7}, Hold: 1}, "a 1 7/5 0/6 0/7"},
		{api.WarnRules{Name: "a", Up: []int{math.MinInt}, Down: []int{math.MaxInt}, Hold: math.MinInt}, "a -9223372036854775808 -9223372036854775808/9223372036854775807"},
		{rules("", 0, 1, 2, 1, 2, 1, 2, 1, 2, 1, 2, 1, 2), " 0 1/2 1/2 1/2 1/2 1/2 1/2"},
		{api.WarnRules{Name: "a\xff", Up: make([]int, 10000)}, "a\xff 0" + strings.Repeat(" 0/0", 10000)},
	} {
		want(t, "FormatRules", FormatRules(x.r), x.text)
	}
}

func TestParseRules(t *testing.T) {
	for _, x := range []struct {
		text string
		r    api.WarnRules
	}{
		{"storm 2 50/40 80/65", exampleRules()},
		{"a 1 0/-1", rules("a", 1, 0, -1)},
		{"a 20 -999999/-1000000 1000000/0", rules("a", 20, -999999, -1000000, 1000000, 0)},
		{"a 3 1/0 2/1 3/2 4/3", rules("a", 3, 1, 0, 2, 1, 3, 2, 4, 3)},
	} {
		r, e := ParseRules(x.text)
		want(t, "ParseRules", results(r, e), results(x.r, api.OK))
	}
	for _, text := range malformedRules() {
		r, e := ParseRules(text)
		refused(t, "ParseRules of "+start(text), api.ErrSyntax, r, e)
	}
	for _, x := range []struct {
		text string
		e    api.Errno
	}{
		{" 0", api.ErrName},
		{" 2 50/40", api.ErrName},
		{"/ 2 50/40", api.ErrName},
		{"7 2 50/40", api.ErrName},
		{"-1 2 50/40", api.ErrName},
		{"storm\n 2 50/40", api.ErrName},
		{"abcdefghijklm 2 50/40", api.ErrName},
		{strings.Repeat("a", 70000) + " 2 50/40", api.ErrName},
		{"a 2", api.ErrShape},
		{"a 0", api.ErrShape},
		{"a 2 5/1 6/2 7/3 8/4 9/5", api.ErrLarge},
		{"a 2" + strings.Repeat(" 5/1", 30000), api.ErrLarge},
		{"a 2 1000001/0", api.ErrRange},
		{"a 2 0/-1000001", api.ErrRange},
		{"a 2 9999999/9999999", api.ErrRange},
		{"a 2 40/40", api.ErrForm},
		{"a 2 50/40 50/45", api.ErrOrder},
		{"a 2 50/40 55/40", api.ErrOrder},
		{"a 0 50/40", api.ErrRange},
		{"a 21 50/40", api.ErrRange},
		{"a 9999999 50/40", api.ErrRange},
		{"a 9999999 50/50", api.ErrForm},
	} {
		r, e := ParseRules(x.text)
		refused(t, "ParseRules of "+start(x.text), x.e, r, e)
	}
}

// malformedRules are strings that are not of the form of rules.
func malformedRules() []string {
	list := []string{
		"", " ", "  ", "a", "storm", "50/40", "2 50/40",
		"storm  2 50/40", "storm 2  50/40", "storm 2 50/40 ", " storm 2 50/40", "storm 2 ", "storm ", "storm\t2 50/40",
		"storm 2 50/40\n", "storm two 50/40", "storm 50/40", "storm 2 50", "storm 2 50 40", "storm 2 /", "storm 2 50/", "storm 2 /40",
		"storm 2 50/40/30", "storm 2 50//40", "storm 2 50 /40", "storm 2 50/ 40", "storm 2 50-40", "storm 2 50,40",
		"storm 2 50/40 x", "storm 2 x 50/40", "storm 2 50/x", "storm 2 x/40",
		"storm 12345678 50/40", "storm 2 12345678/40", "storm 2 50/-12345678", "storm 2 10000000/40",
		"storm 2 " + strings.Repeat("9", 70000) + "/1", strings.Repeat(" ", 70000), strings.Repeat("1/0 ", 70000),
		"storm 2 9223372036854775808/1", "storm 2 1/-9223372036854775809",
	}
	for _, n := range []string{"", "-", "--1", "+1", "-0", "00", "01", "-01", "0x1", "1_0", "1e1", "1.", "٣", "1-", "\x001"} {
		list = append(list, "storm "+n+" 50/40", "storm 2 "+n+"/-9", "storm 2 50/"+n, "storm 2 50/40 80/"+n, "storm "+n)
	}
	return append(list, "storm -1 50/40", "storm -2")
}

func TestParseRulesByForm(t *testing.T) {
	list := manyTexts("storm 2 50/40 80/65")
	list = append(list, manyTexts("a 10 0/-1 1000000/7")...)
	list = append(list, manyTexts(" 1234567 -1234567/0")...)
	for _, text := range append(list, manyTexts("a 3")...) {
		r, e := ParseRules(text)
		if (e == api.ErrSyntax) == rulesForm.MatchString(text) {
			t.Errorf("ParseRules of %q: %d", text, e)
		}
		if e == api.OK && FormatRules(r) != text {
			t.Errorf("ParseRules of %q: %s", text, FormatRules(r))
		}
	}
}

func TestFormatMessage(t *testing.T) {
	for _, x := range []struct {
		m    api.WarnMessage
		text string
	}{
		{message("a", 3, 0), "a 3 0"},
		{message("abcdefghijkl", 1000000, 4), "abcdefghijkl 1000000 4"},
		{api.WarnMessage{}, " 0 0"},
		{message("a b", -1, -2), "a b -1 -2"},
		{message("\xff", math.MinInt, math.MaxInt), "\xff -9223372036854775808 9223372036854775807"},
	} {
		want(t, "FormatMessage", FormatMessage(x.m), x.text)
	}
}

func TestParseMessage(t *testing.T) {
	for _, x := range []struct {
		text string
		m    api.WarnMessage
	}{
		{"a 3 0", message("a", 3, 0)},
		{"abcdefghijkl 1000000 4", message("abcdefghijkl", 1000000, 4)},
		{"Z-9 1 2", message("Z-9", 1, 2)},
	} {
		m, e := ParseMessage(x.text)
		want(t, "ParseMessage", results(m, e), results(x.m, api.OK))
	}
	list := []string{
		"", " ", "  ", "   ", "a", "a 3", "a 3 ", "a  3", " 3 0", "3 0", "a 3 0 ", " a 3 0", "a 3 0 0", "a b 3 0", "a  3 0", "a 3  0",
		"a\t3 0", "a 3\t0", "a 3 0\n", "a x 0", "a 3 x", "a 3/0", "a 12345678 0", "a 3 12345678", "a 10000000 0", "a 3 -1", "a -3 0",
		"a " + strings.Repeat("9", 70000) + " 0", strings.Repeat(" ", 70000), strings.Repeat("1 ", 70000),
		"a 9223372036854775808 0", "a 3 18446744073709551616",
	}
	for _, n := range []string{"", "-", "--1", "+1", "-0", "00", "01", "-01", "0x1", "1_0", "1e1", "1.", "٣", "1-", "\x001", "1/1"} {
		list = append(list, "a "+n+" 0", "a 3 "+n)
	}
	for _, text := range list {
		m, e := ParseMessage(text)
		refused(t, "ParseMessage of "+start(text), api.ErrSyntax, m, e)
	}
	for _, x := range []struct {
		text string
		e    api.Errno
	}{
		{"- 3 0", api.ErrName},
		{"3 3 0", api.ErrName},
		{"a_b 3 0", api.ErrName},
		{"a\n 3 0", api.ErrName},
		{"abcdefghijklm 3 0", api.ErrName},
		{"7 0 5", api.ErrName},
		{strings.Repeat("a", 70000) + " 3 0", api.ErrName},
		{"a 0 0", api.ErrRange},
		{"a 1000001 0", api.ErrRange},
		{"a 9999999 0", api.ErrRange},
		{"a 3 5", api.ErrRange},
		{"a 3 9999999", api.ErrRange},
	} {
		m, e := ParseMessage(x.text)
		refused(t, "ParseMessage of "+start(x.text), x.e, m, e)
	}
}

func TestParseMessageByForm(t *testing.T) {
	list := manyTexts("a 3 0")
	for _, text := range append(list, manyTexts("storm-1 1234567 10")...) {
		m, e := ParseMessage(text)
		if (e == api.ErrSyntax) == messageForm.MatchString(text) {
			t.Errorf("ParseMessage of %q: %d", text, e)
		}
		if e == api.OK && FormatMessage(m) != text {
			t.Errorf("ParseMessage of %q: %s", text, FormatMessage(m))
		}
	}
}

// Strings of values that are refused are refused with the same errors.
func TestParseWhatIsRefused(t *testing.T) {
	for _, x := range badRules() {
		if len(x.r.Up) != len(x.r.Down) {
			continue // the string has 0 for what is missing
		}
		text := FormatRules(x.r)
		expected := x.e
		if !rulesForm.MatchString(text) {
			expected = api.ErrSyntax
		}
		r, e := ParseRules(text)
		refused(t, "ParseRules of "+start(text), expected, r, e)
	}
	for _, x := range badMessages() {
		text := FormatMessage(x.m)
		expected := x.e
		if !messageForm.MatchString(text) {
			expected = api.ErrSyntax
		}
		m, e := ParseMessage(text)
		refused(t, "ParseMessage of "+start(text), expected, m, e)
	}
}

// P8.14

func TestParseReversesFormat(t *testing.T) {
	for _, r := range goodRules() {
		again, e := ParseRules(FormatRules(r))
		want(t, "ParseRules of FormatRules", results(again, e), results(r, api.OK))
	}
	for _, l := range goodStores() {
		for _, m := range l {
			again, e := ParseMessage(FormatMessage(m))
			want(t, "ParseMessage of FormatMessage", results(again, e), results(m, api.OK))
		}
	}
	for _, name := range goodNames() {
		m, e := ParseMessage(FormatMessage(message(name, 1000000, 4)))
		want(t, "ParseMessage of FormatMessage", results(m, e), results(message(name, 1000000, 4), api.OK))
		r, e := ParseRules(FormatRules(rules(name, 20, 7, -7)))
		want(t, "ParseRules of FormatRules", results(r, e), results(rules(name, 20, 7, -7), api.OK))
	}
}
