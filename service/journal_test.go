package service

import (
	"fmt"
	"slices"
	"strings"
	"testing"

	"skywave/api"
)

// P10.6

func TestSumOf(t *testing.T) {
	for _, x := range []struct {
		s          string
		after, sum int
	}{
		{"", 0, 0}, {"", 5, 5}, {"", 1000036, 1000036},
		{"a", 0, 98}, {"ab", 0, 14701}, {"b", 98, 14701},
		{"\x00", 0, 1}, {"\x00\x00", 0, 150}, {"\xff", 0, 256},
		{"\x00", 1000036, 999889}, {"\x93", 1000036, 1000036}, {"\x94", 1000036, 0}, {"\x95", 1000036, 1},
		{"\n", 6711, 999950}, {"<", 6711, 1000000}, {"`", 6711, 1000036}, {"a", 6711, 0},
	} {
		sum, e := SumOf(x.s, x.after)
		want(t, fmt.Sprintf("SumOf(%q, %d)", x.s, x.after), results(sum, e), results(x.sum, api.OK))
	}
	next := numbers(3)
	for range 300 {
		var s []byte
		for range next(80) {
			s = append(s, byte(next(256)))
		}
		after := next(1000037)
		sum, e := SumOf(string(s), after)
		want(t, "SumOf", results(sum, e), results(sumByDefinition(string(s), after), api.OK))
	}
	for _, after := range outsideOf(0, 1000036) {
		for _, s := range []string{"", "a"} {
			sum, e := SumOf(s, after)
			refused(t, "SumOf", api.ErrRange, sum, e)
		}
	}
	_, e := SumOf(strings.Repeat("\xff", 1000000), 1000036)
	want(t, "the sum of a long string", e, api.OK)
}

func TestJournalOfExample(t *testing.T) {
	l := []api.ServiceEntry{entry(5, "ola", "value storm 55"), entry(5, "mia", "note "), entry(1000000000000, "ola", "note  a b ")}
	s, e := Journal(exampleNet(), l)
	first := sumByDefinition("5 ola value storm 55", 0)
	second := sumByDefinition("5 mia note ", first)
	third := sumByDefinition("1000000000000 ola note  a b ", second)
	expected := fmt.Sprintf("5 ola value storm 55 %d\n5 mia note  %d\n1000000000000 ola note  a b  %d\n", first, second, third)
	want(t, "Journal", results(s, e), results(expected, api.OK))
	for _, l := range [][]api.ServiceEntry{nil, {}} {
		s, e := Journal(exampleNet(), l)
		want(t, "the journal of the empty log", results(s, e), results("", api.OK))
	}
	back, size, e := Recovered(exampleNet(), expected)
	want(t, "Recovered", results(back, size, e), results(l, len(expected), api.OK))
	back, size, e = Recovered(exampleNet(), "")
	want(t, "Recovered from nothing", results(len(back), size, e), results(0, 0, api.OK))
}

// P10.14: a journal that is cut at any byte gives exactly the entries of its whole lines.
func TestCuts(t *testing.T) {
	seen := 0
	for n, l := range manyLogs {
		lines := linesByDefinition(l)
		s, e := Journal(n, l)
		want(t, "Journal", results(s, e), results(strings.Join(lines, ""), api.OK))
		for at := 0; at <= len(s); at++ {
			if seen++; len(s) > 600 && seen%23 != 0 && at < len(s)-3 {
				continue
			}
			count := strings.Count(s[:at], "\n")
			back, size, e := Recovered(n, s[:at])
			whole := strings.LastIndex(s[:at], "\n") + 1
			want(t, "Recovered", results(back, size, e), results(l[:count], whole, api.OK))
		}
	}
}

// What follows a journal is not recovered.
func TestJournalsWithMore(t *testing.T) {
	n, l := exampleNet(), exampleLog()
	s, _ := Journal(n, l)
	for _, more := range []string{"\n", " ", "x", "0", "1 ola note a 5\n", "99 ola note a", "\x00", strings.Repeat("x", 60000-len(s)), s} {
		back, size, e := Recovered(n, s+more)
		want(t, "Recovered", results(back, size, e), results(l, len(s), api.OK))
	}
}

// A line in which a byte was changed, left out, doubled or added is not recovered, and none after it.
func TestSpoiledJournals(t *testing.T) {
	n := exampleNet()
	l := logOf("ola note a", "ola value storm 55", "mia client c", "ola subscribe c storm", "ola note ")
	s, _ := Journal(n, l)
	for at := range len(s) {
		count := strings.Count(s[:at], "\n")
		start := strings.LastIndex(s[:at], "\n") + 1
		texts := []string{s[:at] + s[at+1:], s[:at] + s[at:at+1] + s[at:]}
		for _, b := range []string{" ", "0", "1", "9", "-", "+", "a", "\n", "\r", "\x00", "\xff", "\t"} {
			texts = append(texts, s[:at]+b+s[at+1:], s[:at]+b+s[at:])
		}
		for _, text := range texts {
			// A line feed that is doubled comes after a whole line.
			if strings.HasPrefix(text, s[:at+1]) && s[at] == '\n' {
				continue
			}
			if text == s {
				continue
			}
			back, size, e := Recovered(n, text)
			want(t, fmt.Sprintf("Recovered from %q", text), results(back, size, e), results(l[:count], start, api.OK))
		}
	}
}

// Lines that are left out, doubled or exchanged are noticed by the sums.
func TestLinesInOtherOrders(t *testing.T) {
	n := exampleNet()
	l := manyOf(entry(7, "ola", "note a"), 4)
	lines := linesByDefinition(l)
	for i := range 4 {
		for j := range 4 {
			other := slices.Clone(lines)
			other[i], other[j] = other[j], other[i]
			expected := 4
			if i != j {
				expected = min(i, j)
			}
			back, size, e := Recovered(n, strings.Join(other, ""))
			want(t, "exchanged lines", results(back, size, e), results(l[:expected], len(strings.Join(other[:expected], "")), api.OK))
		}
		back, _, e := Recovered(n, strings.Join(slices.Delete(slices.Clone(lines), i, i+1), ""))
		want(t, "a line left out", results(len(back), e), results(i, api.OK))
		back, _, e = Recovered(n, strings.Join(slices.Insert(slices.Clone(lines), i, lines[i]), ""))
		want(t, "a line doubled", results(len(back), e), results(i+1, api.OK))
	}
}

// Lines with right sums whose entries are not valid are not recovered.
func TestJournalsOfWrongEntries(t *testing.T) {
	n, l := exampleNet(), exampleLog()
	for _, x := range []api.ServiceEntry{
		entry(99, "none", "note a"), entry(99, "", "note a"), entry(-1, "ola", "note a"), entry(1, "ola", "note a"), entry(1000000000001, "ola", "note a"),
		entry(99, "ola", "note"), entry(99, "ola", ""), entry(99, "ola", " "), entry(99, "ola", "x"), entry(99, "ola", "client x"), entry(99, "ola", "value none 5"), entry(99, "mia", "client 9"),
		entry(99, "ola", "note é"), entry(99, "ola", "note a\n"), entry(99, "ola", "note "+strings.Repeat("a", 396)),
	} {
		for _, count := range []int{2, len(l)} {
			all := append(append(slices.Clone(l[:count]), x), entry(99, "ola", "note b"))
			lines := linesByDefinition(all)
			back, size, e := Recovered(n, strings.Join(lines, ""))
			want(t, fmt.Sprintf("Recovered with %v", x), results(back, size, e), results(l[:count], len(strings.Join(lines[:count], "")), api.OK))
		}
	}
}

// Numbers that are not written as they must be are no part of a journal, even if the sum is right.
func TestNumbersOfLines(t *testing.T) {
	n := exampleNet()
	for _, text := range []string{
		"01 ola note a", "+1 ola note a", "-0 ola note a", "1.0 ola note a", "1_0 ola note a", "0x1 ola note a", " 1 ola note a", " ola note a", "x ola note a",
		"1  ola note a", "1 ola  note a", "99999999999999999999 ola note a", "-1 ola note a", "ola note a", "1 ola", "1", "", "1 ola ",
	} {
		for _, line := range []string{
			fmt.Sprintf("%s %d\n", text, sumByDefinition(text, 0)),
			text + "\n",
			fmt.Sprintf("%s%d\n", text, sumByDefinition(text, 0)),
		} {
			back, size, e := Recovered(n, line)
			want(t, fmt.Sprintf("Recovered from %q", line), results(len(back), size, e), results(0, 0, api.OK))
		}
	}
	sum := sumByDefinition("1 ola note a", 0)
	for _, line := range []string{
		fmt.Sprintf("1 ola note a 0%d\n", sum), fmt.Sprintf("1 ola note a +%d\n", sum), fmt.Sprintf("1 ola note a -%d\n", sum), fmt.Sprintf("1 ola note a %d \n", sum), fmt.Sprintf("1 ola note a %d\r\n", sum),
		fmt.Sprintf("1 ola note a %d.\n", sum), fmt.Sprintf("1 ola note a %d\n", sum+1000037), fmt.Sprintf("1 ola note a  %d\n", sum), fmt.Sprintf("1 ola note a %d", sum), fmt.Sprintf("\n1 ola note a %d\n", sum),
		fmt.Sprintf("1 ola note a %d\n", sum+1), fmt.Sprintf("1 ola note a %d\n", sum-1),
	} {
		back, size, e := Recovered(n, line)
		want(t, fmt.Sprintf("Recovered from %q", line), results(len(back), size, e), results(0, 0, api.OK))
	}
	back, _, e := Recovered(n, fmt.Sprintf("1 ola note a %d\n", sum))
	want(t, "Recovered", results(back, e), results(logOf("ola note a"), api.OK))
	// Texts may end with a number, or with blanks.
	for _, text := range []string{"note ", "note  ", "note 5", "note 5 ", "note 98 98", "note a "} {
		l := logOf("ola "+text, "ola "+text)
		back, _, e := Recovered(n, strings.Join(linesByDefinition(l), ""))
		want(t, "Recovered", results(back, e), results(l, api.OK))
	}
}

// At most 60 entries are recovered, and at most 60000 bytes are read.
func TestLengthsOfJournals(t *testing.T) {
	n := exampleNet()
	l := manyOf(entry(1000000000000, "ola", "note "+strings.Repeat("x", 395)), 62)
	lines := linesByDefinition(l)
	for count := 58; count <= 62; count++ {
		most := min(count, 60)
		back, size, e := Recovered(n, strings.Join(lines[:count], ""))
		want(t, "Recovered", results(back, size, e), results(l[:most], len(strings.Join(lines[:most], "")), api.OK))
	}
	s := strings.Join(lines[:60], "")
	back, size, e := Recovered(n, s+strings.Repeat("\n", 60000-len(s)))
	want(t, "Recovered from 60000 bytes", results(len(back), size, e), results(60, len(s), api.OK))
	for _, more := range []int{60001 - len(s), 70000, 1000000} {
		back, size, e = Recovered(n, s+strings.Repeat("\n", more))
		refused(t, "Recovered", api.ErrLarge, back, size, e)
	}
	back, size, e = Recovered(n, strings.Repeat("x", 60001))
	refused(t, "Recovered", api.ErrLarge, back, size, e)
}
