package station

import (
	"math"
	"strings"
	"testing"

	"skywave/api"
)

// checkByDefinition divides the polynomial of a string by x^16 + x^12 + x^5 + 1.
func checkByDefinition(s string) int {
	var coefficients []int
	for i := range len(s) {
		for bit := 7; bit >= 0; bit-- {
			coefficients = append(coefficients, int(s[i])>>bit&1)
		}
	}
	coefficients = append(coefficients, make([]int, 16)...)
	for i := range 16 {
		coefficients[i] ^= 1
	}
	for i := range len(coefficients) - 16 {
		if coefficients[i] == 1 {
			for _, power := range []int{16, 12, 5, 0} {
				coefficients[i+16-power] ^= 1
			}
		}
	}
	check := 0
	for _, c := range coefficients[len(coefficients)-16:] {
		check = 2*check + c
	}
	return check
}

// irregularText returns a string of any bytes.
func irregularText(seed, size int) string {
	next := numbers(seed + 600)
	b := make([]byte, size)
	for i := range b {
		b[i] = byte(next(256))
	}
	return string(b)
}

// P9.4

func TestCheckOf(t *testing.T) {
	for _, x := range []struct {
		s     string
		check int
	}{
		{"", 65535},
		{"\x00", 57840},
		{"123456789", 0x29b1},
		{"A", 0xb915},
	} {
		check, e := CheckOf(x.s)
		want(t, "CheckOf "+x.s, results(check, e), results(x.check, api.OK))
	}
	for b := range 256 {
		check, e := CheckOf(string([]byte{byte(b)}))
		want(t, "CheckOf a byte", results(check, e), results(checkByDefinition(string([]byte{byte(b)})), api.OK))
	}
	for seed, size := range []int{2, 3, 4, 5, 7, 8, 15, 16, 17, 100, 999, 1000, 1001, 2999, 3000} {
		s := irregularText(seed, size)
		check, e := CheckOf(s)
		want(t, "CheckOf", results(check, e), results(checkByDefinition(s), api.OK))
	}
	for _, size := range []int{3001, 3002, 60000} {
		check, e := CheckOf(strings.Repeat("a", size))
		refused(t, "CheckOf", api.ErrLarge, check, e)
	}
}

func TestBlocksOf(t *testing.T) {
	l, e := BlocksOf("abc", 2)
	want(t, "BlocksOf", results(l, e), results(exampleBlocks(), api.OK))
	check, _ := CheckOf("0 2 ab")
	want(t, "the check of the block 0", l[0].Check, check)
	for _, size := range []int{1, 2, 1000} {
		l, e = BlocksOf("", size)
		want(t, "BlocksOf the empty string", results(l, e), results([]api.StationBlock{soundBlock(0, 1, "")}, api.OK))
	}
	for _, x := range []struct{ length, size, count int }{
		{1, 1, 1}, {1, 1000, 1}, {2, 1, 2}, {2, 2, 1}, {3, 2, 2}, {4, 2, 2}, {5, 2, 3}, {29, 1, 29}, {30, 1, 30}, {59, 2, 30}, {60, 2, 30},
		{1000, 1000, 1}, {1001, 1000, 2}, {2000, 1000, 2}, {3000, 1000, 3}, {3000, 999, 4}, {3000, 100, 30}, {2901, 100, 30}, {2900, 100, 29},
	} {
		s := irregularText(x.length, x.length)
		l, e := BlocksOf(s, x.size)
		want(t, "BlocksOf", results(len(l), e), results(x.count, api.OK))
		rest := s
		for number, b := range l {
			body := rest[:min(x.size, len(rest))]
			rest = rest[len(body):]
			want(t, "a block", b, soundBlock(number, x.count, body))
		}
		want(t, "the rest", rest, "")
	}
	for _, x := range []struct {
		length, size int
		e            api.Errno
	}{
		{31, 1, api.ErrFull}, {61, 2, api.ErrFull}, {3000, 99, api.ErrFull}, {3000, 1, api.ErrFull}, {2971, 99, api.ErrFull},
		{3001, 1000, api.ErrLarge}, {3001, 1, api.ErrLarge}, {3001, 0, api.ErrLarge}, {60000, 2, api.ErrLarge},
	} {
		l, e := BlocksOf(strings.Repeat("a", x.length), x.size)
		refused(t, "BlocksOf", x.e, l, e)
	}
	for _, size := range outsideOf(1, 1000) {
		for _, s := range []string{"", "abc", strings.Repeat("a", 3000)} {
			l, e := BlocksOf(s, size)
			refused(t, "BlocksOf", api.ErrRange, l, e)
		}
	}
}

func TestIsSound(t *testing.T) {
	for _, b := range []api.StationBlock{
		soundBlock(0, 1, ""), soundBlock(0, 2, "ab"), soundBlock(1, 2, "c"), soundBlock(29, 30, "a b\n\x00"), soundBlock(30, 31, "x"),
		soundBlock(0, math.MaxInt, "x"), soundBlock(math.MaxInt-1, math.MaxInt, "x"), soundBlock(7, 9, strings.Repeat("a", 1000)), soundBlock(0, 2, "\xff\xfe"),
	} {
		is, e := IsSound(b)
		want(t, "IsSound", results(is, e), results(true, api.OK))
		for _, check := range []int{b.Check - 1, b.Check + 1, b.Check ^ 256, b.Check + 65536, b.Check - 65536, -b.Check - 1, -1, math.MinInt, math.MaxInt} {
			damaged := b
			damaged.Check = check
			is, e := IsSound(damaged)
			want(t, "IsSound with another check", results(is, e), results(false, api.OK))
		}
	}
	for _, b := range []api.StationBlock{
		{}, soundBlock(0, 0, "a"), soundBlock(1, 1, "a"), soundBlock(2, 1, "a"), soundBlock(-1, 1, "a"), soundBlock(-1, 0, ""), soundBlock(30, 30, "a"),
		soundBlock(0, -1, "a"), soundBlock(-2, -1, "a"), soundBlock(math.MinInt, 5, "a"), soundBlock(math.MinInt, math.MaxInt, "a"),
		soundBlock(math.MaxInt, math.MaxInt, "a"), soundBlock(math.MaxInt, math.MinInt, "a"), soundBlock(0, math.MinInt, "a"), soundBlock(1, math.MinInt, "a"),
	} {
		is, e := IsSound(b)
		want(t, "IsSound of another number", results(b, is, e), results(b, false, api.OK))
	}
	for _, x := range badBlocks() {
		if len(x.l) == 1 {
			is, e := IsSound(x.l[0])
			refused(t, "IsSound", x.e, is, e)
		}
	}
}

func TestMissingIn(t *testing.T) {
	l := exampleBlocks()
	damaged := l[0]
	damaged.Body = "aB"
	for _, x := range []struct {
		l       []api.StationBlock
		count   int
		missing []int
	}{
		{l, 2, nil},
		{l[:1], 2, []int{1}},
		{l[1:], 2, []int{0}},
		{nil, 2, []int{0, 1}},
		{nil, 1, []int{0}},
		{l, 1, []int{0}}, // another number of all blocks
		{l, 3, []int{0, 1, 2}},
		{[]api.StationBlock{damaged, l[1]}, 2, []int{0}},
		{[]api.StationBlock{damaged, l[1], l[0]}, 2, nil},
		{[]api.StationBlock{l[1], l[1], l[1]}, 2, []int{0}},
		{[]api.StationBlock{soundBlock(2, 2, "x"), soundBlock(-1, 2, "x"), l[0]}, 2, []int{1}},
		{[]api.StationBlock{soundBlock(0, 2, "x"), soundBlock(0, 2, "y")}, 2, []int{1}}, // what clashes is not missing
		{[]api.StationBlock{soundBlock(29, 30, "x")}, 30, []int{0, 1, 2, 3, 4, 5, 6, 7, 8, 9, 10, 11, 12, 13, 14, 15, 16, 17, 18, 19, 20, 21, 22, 23, 24, 25, 26, 27, 28}},
	} {
		missing, e := MissingIn(x.l, x.count)
		want(t, "MissingIn", results(missing, e), results(x.missing, api.OK))
	}
}

func TestAssembled(t *testing.T) {
	l := exampleBlocks()
	damaged := l[0]
	damaged.Body = "aB"
	for _, x := range []struct {
		l     []api.StationBlock
		count int
		s     string
		e     api.Errno
	}{
		{l, 2, "abc", api.OK},
		{[]api.StationBlock{l[1], l[0], l[1]}, 2, "abc", api.OK},
		{[]api.StationBlock{damaged, l[1], l[0]}, 2, "abc", api.OK},
		{[]api.StationBlock{soundBlock(0, 1, "x"), l[1], l[0], soundBlock(0, 3, "y")}, 2, "abc", api.OK},
		{[]api.StationBlock{soundBlock(0, 1, "x"), l[1], l[0]}, 1, "x", api.OK},
		{[]api.StationBlock{soundBlock(2, 2, "x"), l[1], l[0], soundBlock(-1, 2, "x")}, 2, "abc", api.OK},
		{[]api.StationBlock{soundBlock(0, 1, "")}, 1, "", api.OK},
		{[]api.StationBlock{soundBlock(1, 2, ""), soundBlock(0, 2, "longer")}, 2, "longer", api.OK},
		{append(manyOf(l[0], 59), l[1]), 2, "abc", api.OK},
		{nil, 1, "", api.ErrGap},
		{nil, 30, "", api.ErrGap},
		{l[:1], 2, "", api.ErrGap},
		{l[1:], 2, "", api.ErrGap},
		{l, 3, "", api.ErrGap},
		{l, 1, "", api.ErrGap},
		{[]api.StationBlock{damaged, l[1]}, 2, "", api.ErrGap},
		{[]api.StationBlock{l[0], l[1], soundBlock(0, 2, "")}, 2, "", api.ErrClash},
		{[]api.StationBlock{soundBlock(0, 2, ""), l[0], l[1]}, 2, "", api.ErrClash},
		{[]api.StationBlock{l[0], soundBlock(0, 2, "aB")}, 2, "", api.ErrClash}, // the clash comes before the gap
		{[]api.StationBlock{l[0], l[1], l[0], soundBlock(1, 2, "d")}, 2, "", api.ErrClash},
		{[]api.StationBlock{l[0], l[1], soundBlock(1, 3, "d"), soundBlock(1, 3, "e")}, 2, "abc", api.OK},
		{[]api.StationBlock{l[0], l[1], soundBlock(2, 2, "d"), soundBlock(2, 2, "e")}, 2, "abc", api.OK},
	} {
		s, e := Assembled(x.l, x.count)
		want(t, "Assembled", results(s, e), results(x.s, x.e))
	}
	var most []api.StationBlock
	whole := ""
	for number := 29; number >= 0; number-- {
		body := irregularText(number, 1000)
		whole = body + whole
		most = append(most, soundBlock(number, 30, body))
	}
	s, e := Assembled(most, 30)
	want(t, "Assembled of the greatest blocks", results(s == whole, e), results(true, api.OK))
}

// P9.10

func TestOneBurst(t *testing.T) {
	for _, s := range []string{"\x00\x00\x00", "abc", "\xff\xff\xff", "0 2 ab"} {
		check := checkOf(s)
		for begin := 0; begin+16 <= 8*len(s); begin++ {
			for pattern := 1; pattern < 65536; pattern++ {
				if checkOf(changed(s, begin, pattern)) == check {
					t.Fatalf("the check of %q does not show the burst %b at %d", s, pattern, begin)
				}
			}
		}
	}
	for _, s := range []string{"a", "\x00"} {
		for pattern := 1; pattern < 256; pattern++ {
			other := string([]byte{s[0] ^ byte(pattern)})
			if checkOf(other) == checkOf(s) {
				t.Errorf("%q and %q have the same check", s, other)
			}
		}
	}
	for seed := range 100 {
		next := numbers(seed + 800)
		s := irregularText(seed, 2+next(2999))
		before, _ := CheckOf(s)
		for range 10 {
			other := changed(s, next(8*len(s)-15), 1+next(65535))
			after, e := CheckOf(other)
			if e != api.OK || after == before {
				t.Errorf("the check of a string of %d bytes does not show a burst: %d, %d", len(s), after, e)
			}
		}
	}
}

// changed returns a string of which 16 neighbouring bits are changed where those of a pattern are 1.
func changed(s string, begin, pattern int) string {
	b := []byte(s)
	for i := range 16 {
		if pattern>>i&1 == 1 {
			b[(begin+i)/8] ^= 128 >> ((begin + i) % 8)
		}
	}
	return string(b)
}

// P9.11

// damaged returns a block of which one byte of its string is changed, and whether it is a block at all.
func damaged(b api.StationBlock, next func(size int) int) (api.StationBlock, bool) {
	text := []byte(FormatBlock(b))
	text[next(len(text))] ^= byte(1 + next(255))
	other, e := ParseBlock(string(text))
	return other, e == api.OK
}

func TestWhateverTheLinkDoes(t *testing.T) {
	for seed := range 300 {
		next := numbers(seed)
		size := 1 + next(40)
		s := irregularText(seed, next(size*30+1))
		l, e := BlocksOf(s, size)
		want(t, "the error of BlocksOf", e, api.OK)
		count := len(l)
		lost := map[int]bool{}
		for range next(4) * (seed % 2) {
			lost[next(count)] = true
		}
		var received []api.StationBlock
		for number, b := range l {
			if !lost[number] {
				received = append(received, b)
			}
		}
		for len(received)+len(lost) < 60 && next(50) > 0 {
			b := l[next(count)]
			switch other, ok := damaged(b, next); {
			case next(2) == 0 && ok:
				received = append(received, other)
			case !lost[b.Number]:
				received = append(received, b)
			}
		}
		for i := range received {
			j := next(i + 1)
			received[i], received[j] = received[j], received[i]
		}
		checkAssembled(t, s, l, received, lost)
	}
}

// checkAssembled checks that the blocks that are missing are named, and that the string is assembled as soon as these were received.
func checkAssembled(t *testing.T, s string, l, received []api.StationBlock, lost map[int]bool) {
	t.Helper()
	count := len(l)
	var expected []int
	for number := range count {
		if lost[number] {
			expected = append(expected, number)
		}
	}
	missing, e := MissingIn(received, count)
	want(t, "MissingIn", results(missing, e), results(expected, api.OK))
	if len(missing) > 0 {
		text, e := Assembled(received, count)
		refused(t, "Assembled", api.ErrGap, text, e)
	}
	for _, number := range expected {
		received = append(received, l[number])
	}
	text, e := Assembled(received, count)
	if text != s || e != api.OK {
		t.Errorf("Assembled: %q, %d, want %q", start(text), e, start(s))
	}
}
