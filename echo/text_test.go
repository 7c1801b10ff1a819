package echo

import (
	"math"
	"strings"
	"testing"

	"skywave/api"
)

// P2.7

func TestFormatRules(t *testing.T) {
	for _, x := range []struct {
		r api.EchoRules
		s string
	}{
		{exampleRules, "0 1 0 -1 4 1 10 15 100 20"},
		{api.EchoRules{}, "0 0 0 0 0 0 0 0 0 0"},
		{api.EchoRules{Modes: api.EchoModes{Ordinary: api.Gauss{Re: 1, Im: 2}, Extra: api.Gauss{Re: 3, Im: 4}}, Ratio: 5, Noise: 6, Power: 7, Cell: 8, Start: 9, Doubt: 10}, "1 2 3 4 5 6 7 8 9 10"},
		{api.EchoRules{Modes: api.EchoModes{Ordinary: api.Gauss{Re: math.MinInt, Im: math.MaxInt}}, Start: -7, Doubt: math.MinInt}, "-9223372036854775808 9223372036854775807 0 0 0 0 0 0 -7 -9223372036854775808"},
	} {
		want(t, "FormatRules", FormatRules(x.r), x.s)
	}
}

func TestParseRules(t *testing.T) {
	for _, x := range []struct {
		s string
		r api.EchoRules
	}{
		{"0 1 0 -1 4 1 10 15 100 20", exampleRules},
		{"-10 10 10 -10 100 1000000000 1000000000 1000 -1000000 1000000", api.EchoRules{Modes: api.EchoModes{Ordinary: api.Gauss{Re: -10, Im: 10}, Extra: api.Gauss{Re: 10, Im: -10}}, Ratio: 100, Noise: 1000000000, Power: 1000000000, Cell: 1000, Start: -1000000, Doubt: 1000000}},
		{"1 2 3 4 5 6 7 8 9 10", api.EchoRules{Modes: api.EchoModes{Ordinary: api.Gauss{Re: 1, Im: 2}, Extra: api.Gauss{Re: 3, Im: 4}}, Ratio: 5, Noise: 6, Power: 7, Cell: 8, Start: 9, Doubt: 10}},
	} {
		r, e := ParseRules(x.s)
		want(t, "ParseRules of "+x.s, results(r, e), results(x.r, api.OK))
	}
}

// badNumbers are words that are no numbers, or have too many digits.
var badNumbers = []string{
	"", "-", "--1", "+1", "-0", "00", "01", "-01", "1-", "1.0", "1e1", "0x1", "1_0", "a", "/", ":", "\u0661", "\x00", "1\n", "\t1", "1,", "1;", "1:", "1/", "-a",
	"12345678901", "-12345678901", "00000000000", "99999999999999999999", "-99999999999999999999", strings.Repeat("1", 60000),
}

// withWord returns a string of words of which one is replaced.
func withWord(words string, i int, word string) string {
	list := strings.Split(words, " ")
	list[i] = word
	return strings.Join(list, " ")
}

func TestParseRulesSyntax(t *testing.T) {
	valid := "0 1 0 -1 4 1 10 15 100 20"
	list := []string{
		"", " ", "-", "0", valid + " 0", valid + " ", " " + valid, valid + "\n", valid + ",", valid + "," + valid, valid[2:],
		strings.Replace(valid, " ", "  ", 1), strings.Replace(valid, " ", "\t", 1), strings.Replace(valid, " ", ",", 1), strings.ReplaceAll(valid, " ", ""),
		"0 0 0 0 0 0 0 0 0", "0 0 0 0 0 0 0 0 0 0 0", strings.Repeat(" ", 9), strings.Repeat("0 ", 100000),
	}
	for i := range 10 {
		for _, word := range badNumbers {
			list = append(list, withWord(valid, i, word))
		}
	}
	for _, s := range list {
		r, e := ParseRules(s)
		refused(t, "ParseRules of "+s[:min(len(s), 60)], api.ErrSyntax, r, e)
	}
}

func TestParseRulesErrors(t *testing.T) {
	for i := range 10 {
		for _, word := range []string{"9999999999", "-9999999999"} {
			r, e := ParseRules(withWord("0 1 0 -1 4 1 10 15 100 20", i, word))
			refused(t, "ParseRules of a great number", api.ErrRange, r, e)
		}
	}
	for _, s := range []string{"0 1 0 1 4 1 10 15 100 20", "3 0 3 0 0 0 0 0 0 0"} {
		r, e := ParseRules(s)
		refused(t, "ParseRules of "+s, api.ErrZero, r, e)
	}
	for _, x := range badRules() {
		if r, e := ParseRules(FormatRules(x.r)); e != api.ErrSyntax {
			refused(t, "ParseRules of "+FormatRules(x.r), x.e, r, e)
		}
	}
}

// severalEchoes are valid echoes with all tags, and the ends of all ranges.
var severalEchoes = []api.EchoItem{
	{Lag: 0, Power: 1, Tag: api.EchoNeither, Heights: api.Range{Lo: -2000000000, Hi: -2000000000}},
	{Lag: 1, Power: 1000000000, Tag: api.EchoOrdinary, Heights: api.Range{Lo: -2000000000, Hi: 2000000000}},
	{Lag: 7, Power: 8, Tag: api.EchoExtra, Heights: api.Range{Lo: -4, Hi: 36}},
	{Lag: 1000000, Power: 9, Tag: api.EchoUndecided, Heights: api.Range{Lo: 2000000000, Hi: 2000000000}},
}

const severalText = "0 1 0 -2000000000 -2000000000,1 1000000000 1 -2000000000 2000000000,7 8 2 -4 36,1000000 9 3 2000000000 2000000000"

func TestFormatEchoes(t *testing.T) {
	for _, x := range []struct {
		l []api.EchoItem
		s string
	}{
		{[]api.EchoItem{{Lag: 3, Power: 12, Tag: 3, Heights: api.Range{Lo: 125, Hi: 165}}}, "3 12 3 125 165"},
		{nil, "-"},
		{[]api.EchoItem{}, "-"},
		{severalEchoes, severalText},
		{[]api.EchoItem{{}, {}}, "0 0 0 0 0,0 0 0 0 0"},
		{[]api.EchoItem{{Lag: math.MinInt, Power: -1, Tag: 99, Heights: api.Range{Lo: math.MaxInt, Hi: -8}}}, "-9223372036854775808 -1 99 9223372036854775807 -8"},
	} {
		want(t, "FormatEchoes", FormatEchoes(x.l), x.s)
	}
	want(t, "FormatEchoes of many", FormatEchoes(make([]api.EchoItem, 30000)), strings.Repeat("0 0 0 0 0,", 29999)+"0 0 0 0 0")
}

func TestParseEchoes(t *testing.T) {
	for _, x := range []struct {
		s string
		l []api.EchoItem
	}{
		{"3 12 3 125 165", []api.EchoItem{{Lag: 3, Power: 12, Tag: 3, Heights: api.Range{Lo: 125, Hi: 165}}}},
		{"-", nil},
		{severalText, severalEchoes},
	} {
		l, e := ParseEchoes(x.s)
		want(t, "ParseEchoes of "+x.s, results(l, e), results(x.l, api.OK))
	}
}

func TestParseEchoesSyntax(t *testing.T) {
	valid := "3 12 3 125 165"
	list := []string{
		"", " ", ",", "--", "-,-", "-," + valid, valid + ",-", "- ", " -", "0", valid + " 0", valid + " ", " " + valid, valid + "\n", valid + ",", "," + valid, valid[2:],
		valid + ", 4 12 3 125 165", valid + " ,4 12 3 125 165", valid + ",,4 12 3 125 165", valid + ";4 12 3 125 165", valid + " 4 12 3 125 165",
		strings.Replace(valid, " ", "  ", 1), strings.Replace(valid, " ", "\t", 1), strings.Replace(valid, " ", ",", 1),
		"0 0 0 0", "0 0 0 0 0 0", strings.Repeat(" ", 4), strings.Repeat(",", 60000), strings.Repeat("0 ", 30000), "0 0 0 0 0,0",
	}
	for i := range 5 {
		for _, word := range badNumbers {
			if bad := withWord(valid, i, word); len(bad) <= 60000 {
				list = append(list, bad, "0 0 0 0 0,"+bad)
			}
		}
	}
	for _, s := range list {
		l, e := ParseEchoes(s)
		refused(t, "ParseEchoes of "+s[:min(len(s), 60)], api.ErrSyntax, l, e)
	}
}

func TestParseEchoesErrors(t *testing.T) {
	for _, x := range []struct {
		s string
		e api.Errno
	}{
		{strings.Repeat("x", 60001), api.ErrLarge},
		{strings.Repeat("1", 60001), api.ErrLarge},
		{strings.Repeat("1", 60000), api.ErrSyntax},
		{"-1 0 4 5 4", api.ErrRange},
		{"1000001 1 0 0 0", api.ErrRange},
		{"9999999999 1 0 0 0", api.ErrRange},
		{"-9999999999 1 0 0 0", api.ErrRange},
		{"0 0 4 5 4", api.ErrRange},
		{"0 -1 0 0 0", api.ErrRange},
		{"0 1000000001 0 0 0", api.ErrRange},
		{"0 1 4 -2000000001 0", api.ErrRange},
		{"0 1 4 2000000001 0", api.ErrRange},
		{"0 1 4 0 -2000000001", api.ErrRange},
		{"0 1 4 0 2000000001", api.ErrRange},
		{"0 1 4 5 4", api.ErrKind},
		{"0 1 -1 5 4", api.ErrKind},
		{"0 1 9999999999 4 5", api.ErrKind},
		{"0 1 3 5 4", api.ErrOrder},
		{"0 1 3 -4 -5", api.ErrOrder},
		{"0 1 0 0 0,0 1 0 0 0", api.ErrOrder},
		{"5 1 0 0 0,4 1 0 0 0", api.ErrOrder},
		{"5 1 0 0 0,6 1 0 0 0,5 1 0 0 0", api.ErrOrder},
		{"5 1 0 0 0,4 1 4 0 0", api.ErrKind},
		{"5 1 0 0 0,4 0 0 0 0", api.ErrRange},
		{"5 1 0 1 0,4 0 0 0 0", api.ErrOrder},
		{"5 1 4 0 0,4 0 0 0 0", api.ErrKind},
		{"5 1 0 0 0,6 1 0 0 0,7 1 0 0 -1", api.ErrOrder},
	} {
		l, e := ParseEchoes(x.s)
		refused(t, "ParseEchoes of "+x.s[:min(len(x.s), 60)], x.e, l, e)
	}
}

// P2.14

func TestParseReversesFormat(t *testing.T) {
	for _, r := range rulesToTry() {
		back, e := ParseRules(FormatRules(r))
		want(t, "ParseRules of FormatRules", results(back, e), results(r, api.OK))
		want(t, "FormatRules again", FormatRules(back), FormatRules(r))
	}
	lists := [][]api.EchoItem{nil, severalEchoes, severalEchoes[1:2]}
	for seed, r := range rulesToTry() {
		l, e := EchoesOf(r, api.EchoFrame{First: sampleList(seed, 64, 10000), Second: sampleList(seed+1, 64, 10000)})
		want(t, "error of EchoesOf", e, api.OK)
		lists = append(lists, l)
	}
	for _, l := range lists {
		back, e := ParseEchoes(FormatEchoes(l))
		want(t, "ParseEchoes of FormatEchoes", results(back, e), results(l, api.OK))
	}
}
