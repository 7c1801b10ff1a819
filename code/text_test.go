package code

import (
	"math"
	"strings"
	"testing"

	"skywave/api"
)

// P1.7

func TestFormatFrame(t *testing.T) {
	for _, x := range []struct {
		f api.CodeFrame
		s string
	}{
		{api.CodeFrame{Limit: 9, Samples: []api.Gauss{{}, im(5), im(5), {}}, Gaps: []int{2}}, "0 9;0,0 0,5 0,5 0,0;2"},
		{api.CodeFrame{Gain: -8, Limit: 2000000, Samples: []api.Gauss{{Re: -12, Im: 34}}}, "-8 2000000;-12,34;"},
		{api.CodeFrame{}, "0 0;;"},
		{api.CodeFrame{Gaps: []int{3, 1, -4}}, "0 0;;3 1 -4"},
		{api.CodeFrame{Gain: math.MinInt, Limit: -1, Samples: []api.Gauss{{Re: math.MaxInt, Im: math.MinInt}}, Gaps: []int{math.MaxInt}},
			"-9223372036854775808 -1;9223372036854775807,-9223372036854775808;9223372036854775807"},
	} {
		want(t, "FormatFrame", FormatFrame(x.f), x.s)
	}
	long := FormatFrame(api.CodeFrame{Samples: make([]api.Gauss, 70)})
	want(t, "FormatFrame of many samples", long, "0 0;"+strings.Repeat("0,0 ", 69)+"0,0;")
}

func TestParseFrame(t *testing.T) {
	for _, x := range []struct {
		s string
		f api.CodeFrame
	}{
		{"0 9;0,0 0,5 0,5 0,0;2", api.CodeFrame{Limit: 9, Samples: []api.Gauss{{}, im(5), im(5), {}}, Gaps: []int{2}}},
		{"-8 2000000;-2000000,2000000;", api.CodeFrame{Gain: -8, Limit: 2000000, Samples: []api.Gauss{{Re: -2000000, Im: 2000000}}}},
		{"8 10;1,-10 10,0;0 1", api.CodeFrame{Gain: 8, Limit: 10, Samples: []api.Gauss{{Re: 1, Im: -10}, re(10)}, Gaps: []int{0, 1}}},
	} {
		f, e := ParseFrame(x.s)
		want(t, "ParseFrame of "+x.s, results(f, e), results(x.f, api.OK))
	}
}

func TestParseFrameSyntax(t *testing.T) {
	for _, s := range []string{
		"", ";", ";;", ";;;", "0 9", "0 9;1,1", "0 9;1,1;;", "0 9;1,1;0;", ";1,1;", "0 9;1,1;0\n", "\xff 9;1,1;",
		"0;1,1;", "9;1,1;", "0 9 1;1,1;", " 0 9;1,1;", "0 9 ;1,1;", "0  9;1,1;", "0\t9;1,1;", " 9;1,1;", "0 ;1,1;", "0,9;1,1;",
		"+0 9;1,1;", "-0 9;1,1;", "00 9;1,1;", "01 9;1,1;", "0 09;1,1;", "0 +9;1,1;", "0 -9;1,1;", "- 9;1,1;", "--1 9;1,1;", "-01 9;1,1;", "1- 9;1,1;",
		"0x1 9;1,1;", "0 9.0;1,1;", "0 9e1;1,1;", "a 9;1,1;", "0 1_0;1,1;", "\u0661 9;1,1;",
		"0 9;1;", "0 9;1,;", "0 9;,1;", "0 9;,;", "0 9;1,1,1;", "0 9; 1,1;", "0 9;1,1 ;", "0 9;1,1  1,1;", "0 9; ;", "0 9;1, 1;",
		"0 9;-0,1;", "0 9;1,-0;", "0 9;01,1;", "0 9;1,01;", "0 9;+1,1;", "0 9;1,+1;", "0 9;1,--1;", "0 9;-,1;", "0 9;1,-;", "0 9;1,a;", "0 9;1;1",
		"0 9;1,1; ", "0 9;1,1; 0", "0 9;1,1;0 ", "0 9;1,1;-0", "0 9;1,1;-1", "0 9;1,1;00", "0 9;1,1;+0", "0 9;1,1 1,1;0  1", "0 9;1,1;0,0", "0 9;1,1;x",
		"123456789 9;1,1;", "-123456789 9;1,1;", "0 123456789;1,1;", "0 9;123456789,0;", "0 9;0,-123456789;", "0 9;1,1;123456789",
		"0 99999999999999999999;1,1;", "000000000 9;1,1;",
		strings.Repeat(";", 60000), "0 9;" + strings.Repeat("1", 59995) + ";",
	} {
		f, e := ParseFrame(s)
		refused(t, "ParseFrame of "+s[:min(len(s), 40)], api.ErrSyntax, f, e)
	}
}

func TestParseFrameErrors(t *testing.T) {
	for _, x := range []struct {
		s string
		e api.Errno
	}{
		{strings.Repeat("x", 60001), api.ErrLarge},
		{"0 9;1,1;" + strings.Repeat("0 ", 29996) + "0", api.ErrLarge},
		{"0 9;1,1;0" + strings.Repeat(" 0", 29995), api.ErrOrder},
		{"0 9;" + strings.Repeat("0,0 ", 14997) + "0,0;", api.ErrLarge},
		{"99999999 9;1,1;", api.ErrRange},
		{"-99999999 9;1,1;", api.ErrRange},
		{"9 9;;", api.ErrRange},
		{"0 0;1,1;", api.ErrRange},
		{"0 2000001;1,1;", api.ErrRange},
		{"0 99999999;1,1;", api.ErrRange},
		{"0 9;;", api.ErrShape},
		{"0 9;;0", api.ErrShape},
		{"0 9;99999999,0;", api.ErrRange},
		{"0 9;0,-99999999;", api.ErrRange},
		{"0 9;10,0;1", api.ErrRange},
		{"0 9;1,1;1", api.ErrMissing},
		{"0 9;1,1;99999999", api.ErrMissing},
		{"0 9;1,1 1,1;1 0", api.ErrOrder},
		{"0 9;" + strings.Repeat("0,0 ", 64) + "0,0;", api.ErrLarge},
	} {
		f, e := ParseFrame(x.s)
		refused(t, "ParseFrame of "+x.s[:min(len(x.s), 40)], x.e, f, e)
	}
	for _, x := range badFrames {
		s := FormatFrame(x.f)
		if f, e := ParseFrame(s); e != api.ErrSyntax {
			refused(t, "ParseFrame of "+s, x.e, f, e)
		}
	}
}

// P1.14

func TestParseReversesFormat(t *testing.T) {
	list := append([]api.CodeFrame{
		gapFrame,
		{Gain: 8, Limit: 1, Samples: repeated(64, re(1))},
		{Gain: -8, Limit: 2000000, Samples: []api.Gauss{{Re: 2000000, Im: -2000000}}, Gaps: []int{0}},
		{Gain: -1, Limit: 10, Samples: []api.Gauss{{Re: -10, Im: 10}, {}, {Re: -1, Im: 1}}, Gaps: []int{0, 1, 2}},
	}, framesToTry...)
	for _, f := range list {
		back, e := ParseFrame(FormatFrame(f))
		want(t, "ParseFrame of FormatFrame", results(back, e), results(f, api.OK))
		want(t, "FormatFrame again", FormatFrame(back), FormatFrame(f))
	}
}
