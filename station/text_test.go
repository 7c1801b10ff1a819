package station

import (
	"math"
	"regexp"
	"strings"
	"testing"

	"skywave/api"
)

var blockForm = regexp.MustCompile(`^((0|[1-9][0-9]{0,8}) ){3}`)

// P9.4: strings of blocks.

func TestFormatBlock(t *testing.T) {
	for _, x := range []struct {
		b api.StationBlock
		s string
	}{
		{api.StationBlock{}, "0 0 0 "},
		{api.StationBlock{Count: 1, Check: 5, Body: "a b"}, "0 1 5 a b"},
		{api.StationBlock{Number: 1, Count: 2, Check: 3}, "1 2 3 "},
		{api.StationBlock{Number: 1, Count: 2, Check: 3, Body: " "}, "1 2 3  "},
		{api.StationBlock{Number: -1, Count: -2, Check: -3, Body: "\xff\n"}, "-1 -2 -3 \xff\n"},
		{api.StationBlock{Number: math.MinInt, Count: math.MaxInt, Check: math.MinInt, Body: "x"}, "-9223372036854775808 9223372036854775807 -9223372036854775808 x"},
		{api.StationBlock{Body: strings.Repeat("a", 60000)}, "0 0 0 " + strings.Repeat("a", 60000)},
	} {
		want(t, "FormatBlock", FormatBlock(x.b), x.s)
	}
	want(t, "FormatBlock of the example", FormatBlock(exampleBlocks()[0]), "0 2 6800 ab")
}

func TestParseBlock(t *testing.T) {
	for _, x := range []struct {
		s string
		b api.StationBlock
	}{
		{"0 0 0 ", api.StationBlock{}},
		{"0 1 5 a b", api.StationBlock{Count: 1, Check: 5, Body: "a b"}},
		{"7 8 9  ", api.StationBlock{Number: 7, Count: 8, Check: 9, Body: " "}},
		{"7 8 9 10 11", api.StationBlock{Number: 7, Count: 8, Check: 9, Body: "10 11"}},
		{"7 8 9 -1", api.StationBlock{Number: 7, Count: 8, Check: 9, Body: "-1"}},
		{"7 8 9 a  b \n\xff\x00 ", api.StationBlock{Number: 7, Count: 8, Check: 9, Body: "a  b \n\xff\x00 "}},
		{"999999999 999999999 999999999 x", api.StationBlock{Number: 999999999, Count: 999999999, Check: 999999999, Body: "x"}},
		{"999999999 999999999 999999999 " + strings.Repeat("x", 1000), api.StationBlock{Number: 999999999, Count: 999999999, Check: 999999999, Body: strings.Repeat("x", 1000)}},
		{"1 2 3 " + strings.Repeat(" ", 1000), api.StationBlock{Number: 1, Count: 2, Check: 3, Body: strings.Repeat(" ", 1000)}},
	} {
		b, e := ParseBlock(x.s)
		want(t, "ParseBlock of "+start(x.s), results(b, e), results(x.b, api.OK))
	}
}

func TestParseBlockRefused(t *testing.T) {
	list := []string{"", " ", "   ", "    ", "0", "0 ", "0 1", "0 1 ", "0 1 5", "0 1 5\n", " 0 1 5 a", "0  1 5 a", "0 1  5 a", "a 0 1 5", "0 a 1 5", "0 1 a 5", "0\t1 5 a", "0 1\n5 a", "0 1 5\ta",
		strings.Repeat("9", 1040), strings.Repeat(" ", 1040), "x" + strings.Repeat("9", 1039), "0 1 5" + strings.Repeat("a", 1035)}
	for _, n := range badNumbers() {
		list = append(list, n+" 1 5 a", "0 "+n+" 5 a", "0 1 "+n+" a", n+" "+n+" "+n+" ")
	}
	for _, s := range list {
		b, e := ParseBlock(s)
		refused(t, "ParseBlock of "+start(s), api.ErrSyntax, b, e)
	}
	for _, x := range []struct {
		s string
		e api.Errno
	}{
		{strings.Repeat("a", 1041), api.ErrLarge},
		{strings.Repeat(" ", 60000), api.ErrLarge},
		{"0 1 5 " + strings.Repeat("a", 60000), api.ErrLarge},
		{"0 1 5 " + strings.Repeat("a", 1035), api.ErrLarge},
		{"0 1 5 " + strings.Repeat("a", 1034), api.ErrLarge},
		{"0 1 5 " + strings.Repeat("a", 1001), api.ErrLarge},
		{"999999999 999999999 999999999 " + strings.Repeat("a", 1001), api.ErrLarge},
		{"999999999 999999999 999999999 " + strings.Repeat("a", 1010), api.ErrLarge},
		{"9999999999 999999999 999999999 " + strings.Repeat("a", 1009), api.ErrSyntax},
		{"00 1 5 " + strings.Repeat("a", 1001), api.ErrSyntax},
		{"00 1 5 " + strings.Repeat("a", 1034), api.ErrLarge},
	} {
		b, e := ParseBlock(x.s)
		refused(t, "ParseBlock of "+start(x.s), x.e, b, e)
	}
}

// manyTexts returns texts that are near a given one: with a part left out, doubled, or replaced.
func manyTexts(s string) []string {
	var list []string
	for i := range len(s) {
		list = append(list, s[:i]+s[i+1:], s[:i]+s[i:i+1]+s[i:], s[:i])
		for _, part := range []string{" ", "-", "+", "0", "9", "x", ".", ",", "_", "\n", "\t", "\x00", "\xc3"} {
			list = append(list, s[:i]+part+s[i:], s[:i]+part+s[i+1:])
		}
	}
	return list
}

func TestParseBlockByForm(t *testing.T) {
	list := manyTexts("0 1 5 a b")
	list = append(list, manyTexts("10 123456789 65535 ")...)
	for _, s := range append(list, manyTexts("999999999 999999999 999999999 7 ")...) {
		b, e := ParseBlock(s)
		if blockForm.MatchString(s) != (e == api.OK) || e != api.OK && e != api.ErrSyntax {
			t.Errorf("ParseBlock of %q: %d", s, e)
		}
		if e == api.OK && FormatBlock(b) != s {
			t.Errorf("ParseBlock of %q: %s", s, FormatBlock(b))
		}
	}
}

// P9.14

func TestParseReversesFormat(t *testing.T) {
	numbersOf := []int{0, 1, 9, 10, 65535, 99999999, 100000000, 999999998, 999999999}
	for _, body := range []string{"", " ", "  ", "a", "a b", " a ", "0 1 2 3", "-1", "\n", "\x00", "\xff\xc3", "äé", strings.Repeat("a ", 500), strings.Repeat(" ", 1000)} {
		for _, number := range numbersOf {
			for _, count := range numbersOf {
				for _, check := range numbersOf {
					b := api.StationBlock{Number: number, Count: count, Check: check, Body: body}
					again, e := ParseBlock(FormatBlock(b))
					if again != b || e != api.OK {
						t.Errorf("ParseBlock of FormatBlock of %v: %v, %d", b, again, e)
					}
				}
			}
		}
	}
	for size := range 40 {
		l, _ := BlocksOf(irregularText(size, size*3), 1+size/10)
		for _, b := range l {
			again, e := ParseBlock(FormatBlock(b))
			want(t, "ParseBlock of FormatBlock", results(again, e), results(b, api.OK))
		}
	}
}
