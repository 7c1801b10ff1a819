package trace

import (
	"math"
	"strings"
	"testing"

	"skywave/api"
)

const exampleText = "2000 500;10o,200o,0n;0n,150o,90u;0n,100x,180o"

// P3.8

func TestFormatGram(t *testing.T) {
	for _, x := range []struct {
		g api.TraceGram
		s string
	}{
		{exampleGram(), exampleText},
		{api.TraceGram{}, "0 0"},
		{api.TraceGram{First: 7, Columns: [][]api.TraceCell{}}, "7 0"},
		{api.TraceGram{First: 1, Step: 2, Columns: [][]api.TraceCell{nil}}, "1 2;"},
		{api.TraceGram{First: 1, Step: 2, Columns: [][]api.TraceCell{nil, {{Amplitude: 3}}, {}}}, "1 2;;3o;"},
		{api.TraceGram{First: math.MinInt, Step: math.MaxInt, Columns: [][]api.TraceCell{{{Amplitude: -4, Tag: -1}, {Amplitude: math.MinInt, Tag: 4}, {Tag: math.MaxInt}, {Tag: math.MinInt}}}}, "-9223372036854775808 9223372036854775807;-4?,-9223372036854775808?,0?,0?"},
		{api.TraceGram{Columns: repeated(13, []api.TraceCell{{Tag: api.TraceUndecided}})}, "0 0" + strings.Repeat(";0u", 13)},
		{emptyGram(1, 14), "1 1;0o" + strings.Repeat(",0o", 13)},
	} {
		want(t, "FormatGram", FormatGram(x.g), x.s)
	}
}

func TestFormatPath(t *testing.T) {
	for _, x := range []struct {
		p api.TracePath
		s string
	}{
		{examplePath(), "0 1 1 2"},
		{path(3), "3"},
		{path(9, -1, 11), "9 -1 11"},
		{path(math.MinInt, math.MaxInt, -7), "-9223372036854775808 9223372036854775807 -7"},
		{path(0, repeated(30, 0)...), "0" + strings.Repeat(" 0", 30)},
	} {
		want(t, "FormatPath", FormatPath(x.p), x.s)
	}
}

func TestFormatEdit(t *testing.T) {
	for _, x := range []struct {
		edit api.TraceEdit
		s    string
	}{
		{withdraw(3, 1), "3 w 0 1 ann"},
		{move(1000000, 9, 11), "1000000 m 9 11 ann"},
		{by("A-0", remove(2, 1)), "2 r 1 0 A-0"},
		{api.TraceEdit{}, "0 m 0 0 "},
		{api.TraceEdit{Number: -1, Kind: 3, Column: math.MinInt, Row: math.MaxInt, By: "a b"}, "-1 ? -9223372036854775808 9223372036854775807 a b"},
		{api.TraceEdit{Kind: -1, By: "\xff"}, "0 ? 0 0 \xff"},
		{api.TraceEdit{Kind: math.MaxInt, By: "?"}, "0 ? 0 0 ?"},
	} {
		want(t, "FormatEdit", FormatEdit(x.edit), x.s)
	}
}

func TestParseGram(t *testing.T) {
	for _, x := range []struct {
		s string
		g api.TraceGram
	}{
		{exampleText, exampleGram()},
		{"1 1;0o", emptyGram(1, 1)},
		{"3000 3000;255x;0u", api.TraceGram{First: 3000, Step: 3000, Columns: [][]api.TraceCell{{{Amplitude: 255, Tag: api.TraceExtra}}, {{Tag: api.TraceUndecided}}}}},
		{"1 1" + strings.Repeat(";0o"+strings.Repeat(",0o", 11), 10), emptyGram(10, 12)},
	} {
		g, e := ParseGram(x.s)
		want(t, "ParseGram of "+x.s, results(g, e), results(x.g, api.OK))
	}
}

// badNumbers are words that are no numbers from 0 on.
var badNumbers = []string{
	"", "-", "-1", "--1", "+1", "-0", "+0", "00", "01", "-01", "1-", "1.0", "1e1", "0x1", "1_0", "a", "/", ":", "\u0661", "\x00", "1\n", "\t1", "0b1", "o", "1?", "1 ", " 1",
	"12345678", "00000000", "99999999999999999999", "9223372036854775808", strings.Repeat("1", 1000),
}

// start is the beginning of a string, for messages.
func start(s string) string { return s[:min(len(s), 60)] }

func TestParseGramSyntax(t *testing.T) {
	list := []string{
		"", " ", ";", "1", "1 ", " 1", "1 1 ", " 1 1", "1  1", "1\t1", "1,1", "1 1 1", "1;1;0o", "1 1;0o\n", "1 1; 0o", "1 1 ;0o", "1 1;0o ", "1 1;0o, 0o", "1 1;0o ,0o",
		"1 1;0o,", "1 1;,0o", "1 1;,", "1 1;0o,,0o", "1 1;o", "1 1;0", "1 1;0O", "1 1;0?", "1 1;0a", "1 1;0oo", "1 1;o0", "1 1;0 o", "1 1;0o 0o", "1 1;0o0o", "1 1;?",
		"100000 1;0o", "1 100000;0o", "1 1;100000o", "1 1;0o,0o;0o,000000o", strings.Repeat("1", 60000), "1 1;" + strings.Repeat(",", 59996), strings.Repeat(";", 60000), strings.Repeat(" ", 60000),
	}
	for _, word := range badNumbers {
		list = append(list, word+" 1;0o", "1 "+word+";0o", "1 1;"+word+"o", "1 1;0o,"+word+"n", "1 1;0o;"+word+"x", "0 0;256o;"+word+"x", word)
	}
	for _, s := range list {
		g, e := ParseGram(s)
		refused(t, "ParseGram of "+start(s), api.ErrSyntax, g, e)
	}
}

func TestParseGramErrors(t *testing.T) {
	for _, x := range []struct {
		s string
		e api.Errno
	}{
		{strings.Repeat("x", 60001), api.ErrLarge},
		{exampleText + strings.Repeat(";0o,0o,0o", 60000), api.ErrLarge},
		{strings.Repeat("1", 60001), api.ErrLarge},
		{"1 1" + strings.Repeat(";0o", 11), api.ErrLarge},
		{"1 1" + strings.Repeat(";0o", 19999), api.ErrLarge},
		{"1 1;0o" + strings.Repeat(",0o", 12), api.ErrLarge},
		{"1 1;0o" + strings.Repeat(",0o", 12) + ";0o", api.ErrLarge},
		{"0 1;0o", api.ErrRange},
		{"1 0;0o", api.ErrRange},
		{"3001 1;0o", api.ErrRange},
		{"1 3001;0o", api.ErrRange},
		{"99999 1;0o", api.ErrRange},
		{"0 0", api.ErrRange},
		{"1 1;256o", api.ErrRange},
		{"1 1;0o,99999u", api.ErrRange},
		{"1 1", api.ErrShape},
		{"1 1;", api.ErrShape},
		{"1 1;;", api.ErrShape},
		{"1 1;0o;", api.ErrShape},
		{"1 1;;0o", api.ErrShape},
		{"1 1;0o;0o,0o", api.ErrShape},
		{"1 1;0o,0o;0o", api.ErrShape},
	} {
		g, e := ParseGram(x.s)
		refused(t, "ParseGram of "+start(x.s), x.e, g, e)
	}
}

func TestParsePath(t *testing.T) {
	for _, x := range []struct {
		s string
		p api.TracePath
	}{
		{"0 1 1 2", examplePath()},
		{"0 0", path(0, 0)},
		{"9 11", path(9, 11)},
		{"9 -1", path(9, -1)},
		{"9 -1 10 -1 11 0 0 0 0 0 -1", path(9, -1, 10, -1, 11, 0, 0, 0, 0, 0, -1)},
	} {
		p, e := ParsePath(x.s)
		want(t, "ParsePath of "+x.s, results(p, e), results(x.p, api.OK))
	}
}

func TestParsePathErrors(t *testing.T) {
	list := []string{
		"", " ", "0", "0 ", " 0", "0 0 ", " 0 0", "0  0", "0\t0", "0,0", "0 0\n", "0;0", "0 0,0", "0 - 1", "0 -1 -0", "0 -", "0 --1", "0 -01", "0 -00", "0 00", "0 01", "0 -+1", "0 -100", "0 100",
		"-1 0", "-0 0", "100 0", "00 0", "10 0 ", "0 12 x", "10 100", "0 " + strings.Repeat("1", 100000), strings.Repeat("0 ", 100000), "0" + strings.Repeat(" 0", 100000) + " x",
	}
	for _, word := range badNumbers {
		list = append(list, word+" 0", word)
		if word != "-1" {
			list = append(list, "0 "+word, "0 0 "+word, "0 "+word+" 0", "99 99 "+word)
		}
	}
	for _, s := range list {
		p, e := ParsePath(s)
		refused(t, "ParsePath of "+start(s), api.ErrSyntax, p, e)
	}
	for _, x := range []struct {
		s string
		e api.Errno
	}{
		{"10 0", api.ErrRange},
		{"99 0", api.ErrRange},
		{"10 0 0 0 0 0 0 0 0 0 0 0", api.ErrRange},
		{"9 0 0 0 0 0 0 0 0 0 0 0", api.ErrLarge},
		{"0 99 0 0 0 0 0 0 0 0 0 0", api.ErrLarge},
		{"0" + strings.Repeat(" 0", 100000), api.ErrLarge},
		{"0 12", api.ErrRange},
		{"0 99", api.ErrRange},
		{"0 -2", api.ErrRange},
		{"0 -99", api.ErrRange},
		{"0 0 -2", api.ErrRange},
		{"0 0 0 0 0 0 0 0 0 0 12", api.ErrRange},
	} {
		p, e := ParsePath(x.s)
		refused(t, "ParsePath of "+start(x.s), x.e, p, e)
	}
}

func TestParseEdit(t *testing.T) {
	for _, x := range []struct {
		s    string
		edit api.TraceEdit
	}{
		{"3 w 0 1 ann", withdraw(3, 1)},
		{"1 w 0 0 ann", withdraw(1, 0)},
		{"1 w 0 1 ann", withdraw(1, 1)},
		{"1 w 0 9999999 ann", withdraw(1, 9999999)},
		{"1000000 m 9 11 ann", move(1000000, 9, 11)},
		{"1 m 0 0 ann", move(1, 0, 0)},
		{"1 r 9 0 A-0123456789", by("A-0123456789", remove(1, 9))},
	} {
		edit, e := ParseEdit(x.s)
		want(t, "ParseEdit of "+x.s, results(edit, e), results(x.edit, api.OK))
	}
}

func TestParseEditSyntax(t *testing.T) {
	valid := "3 m 2 1 ann"
	list := []string{
		"", " ", "    ", valid + " ", " " + valid, valid + " b", "3 m 2 1", "3 m 2 1 ", "3 m 2 ann", "m 2 1 ann", "3  m 2 1 ann", "3 m 2 1  ann", "3 m 2 1\tann", "3,m,2,1,ann", "3 m 2 1 a b",
		"3 ? 2 1 ann", "3 M 2 1 ann", "3 x 2 1 ann", "3 mr 2 1 ann", "3 mrw 2 1 ann", "3  2 1 ann", "3 0 2 1 ann", "3 wm 2 1 ann", "3 rw 2 1 ann", "3 \xff 2 1 ann", strings.Repeat(" ", 100000), valid + strings.Repeat(" ", 100000),
		"0 m 2 1 ", "0 ? 2 1 ann", "3 w 2 -1 ann",
	}
	for _, word := range badNumbers {
		list = append(list, word+" m 2 1 ann", "3 m "+word+" 1 ann", "3 m 2 "+word+" ann", "3 w 0 "+word+" ann", "0 r "+word+" 7 -")
	}
	for _, s := range list {
		edit, e := ParseEdit(s)
		refused(t, "ParseEdit of "+start(s), api.ErrSyntax, edit, e)
	}
}

func TestParseEditErrors(t *testing.T) {
	for _, x := range []struct {
		s string
		e api.Errno
	}{
		{"3 w 1 1 ann", api.ErrForm},
		{"3 w 9999999 1 -", api.ErrForm},
		{"0 m 0 0 ann", api.ErrRange},
		{"1000001 m 0 0 ann", api.ErrRange},
		{"9999999 w 1 0 -", api.ErrRange},
		{"3 m 10 0 ann", api.ErrRange},
		{"3 m 0 12 -", api.ErrRange},
		{"3 r 10 1 ann", api.ErrRange},
		{"3 r 9 1 -", api.ErrForm},
		{"3 m 9 11 -", api.ErrName},
		{"3 m 9 11 an\tn", api.ErrName},
		{"3 w 0 1 1a", api.ErrName},
		{"3 r 0 0 abcdefghijklm", api.ErrName},
		{"3 r 0 0 " + strings.Repeat("a", 100000), api.ErrName},
	} {
		edit, e := ParseEdit(x.s)
		refused(t, "ParseEdit of "+start(x.s), x.e, edit, e)
	}
	for _, x := range badEditsAlone() {
		edit, e := ParseEdit(FormatEdit(x.l[0]))
		if e != api.ErrSyntax {
			refused(t, "ParseEdit of "+start(FormatEdit(x.l[0])), x.e, edit, e)
		}
	}
}

// P3.15

func TestParseReversesFormat(t *testing.T) {
	for seed, g := range goodGrams() {
		again, e := ParseGram(FormatGram(g))
		want(t, "ParseGram of FormatGram", results(again, e), results(g, api.OK))
		p := irregularPath(seed, g)
		samePath, e := ParsePath(FormatPath(p))
		want(t, "ParsePath of FormatPath", results(samePath, e), results(p, api.OK))
	}
	for seed := range 50 {
		for _, edit := range irregularEdits(seed, 20, 0, 10, 12) {
			same, e := ParseEdit(FormatEdit(edit))
			want(t, "ParseEdit of FormatEdit", results(same, e), results(edit, api.OK))
		}
	}
}
