package ray

import (
	"math/big"
	"testing"

	"skywave/api"
)

// fieldOf returns a field by its gyro frequency and the range of the component.
func fieldOf(gyro, lo, hi int) api.RayField {
	return api.RayField{Gyro: gyro, Along: rangeOf(lo, hi)}
}

// P5.5

func TestCheckField(t *testing.T) {
	for _, f := range []api.RayField{
		{}, fieldOf(300, -100, 100), fieldOf(0, -100, -100), fieldOf(300, 100, 100), fieldOf(1, 0, 0), fieldOf(140, -7, -3), fieldOf(140, 3, 100),
	} {
		want(t, "CheckField", results(f, CheckField(f)), results(f, api.OK))
	}
	for _, x := range badFields() {
		want(t, "CheckField", results(x.f, CheckField(x.f)), results(x.f, x.e))
	}
}

func TestIndexSpans(t *testing.T) {
	span := func(a, b, c, d int) api.Span { return api.Span{Lo: part(a, b), Hi: part(c, d)} }
	for _, x := range []struct {
		s         api.RaySky
		frequency int
		f         api.RayField
		spans     []api.Span
	}{
		{simpleSky(), 1000, fieldOf(100, -100, 100), []api.Span{span(1, 10, 29, 110)}},
		{simpleSky(), 1000, fieldOf(100, -100, -100), []api.Span{span(29, 110, 29, 110)}},
		{simpleSky(), 1000, fieldOf(100, 100, 100), []api.Span{span(1, 10, 1, 10)}},
		{simpleSky(), 1000, fieldOf(100, 0, 100), []api.Span{span(1, 10, 19, 100)}},
		{simpleSky(), 1000, fieldOf(100, -100, 0), []api.Span{span(19, 100, 29, 110)}},
		{simpleSky(), 900, fieldOf(100, -100, 100), []api.Span{span(-1, 8, 1, 10)}},
		{simpleSky(), 101, fieldOf(100, 0, 100), []api.Span{span(-809899, 101, -799799, 10201)}},
		{simpleSky(), 1, fieldOf(0, -100, 100), []api.Span{span(-809999, 1, -809999, 1)}},
		{sky(1, 1, 0), 301, fieldOf(300, -100, 100), []api.Span{span(1, 1, 1, 1)}},
		{sky(1, 1, 9000000), 3000, fieldOf(300, -100, 100), []api.Span{span(-1, 9, 1, 11)}},
		{sky(1, 1, 9000000), 301, fieldOf(300, 100, 100), []api.Span{span(-8999699, 301, -8999699, 301)}},
	} {
		spans, e := IndexSpans(x.s, x.frequency, x.f)
		want(t, "IndexSpans "+FormatSky(x.s), results(x.frequency, x.f, spans, e), results(x.frequency, x.f, x.spans, api.OK))
	}
}

func TestReflectsWith(t *testing.T) {
	const no, maybe, yes = api.AnswerNo, api.AnswerMaybe, api.AnswerYes
	for _, x := range []struct {
		s      api.RaySky
		f      api.RayField
		r      api.RayShot
		answer int
	}{
		{simpleSky(), fieldOf(100, -100, 100), aimed(1000, 1, 4), maybe},
		{simpleSky(), fieldOf(100, -100, 100), aimed(1000, 1, 2), yes},
		{simpleSky(), fieldOf(100, -100, 100), aimed(1000, 1, 20), no},
		// The index square is 1/10 for the component 100, 19/100 for 0 and 29/110 for -100.
		{simpleSky(), fieldOf(100, -100, 100), aimed(1000, 1, 10), maybe},
		{simpleSky(), fieldOf(100, -100, 100), aimed(1000, 9, 91), no},
		{simpleSky(), fieldOf(100, -100, 100), aimed(1000, 26, 99), maybe},
		{simpleSky(), fieldOf(100, -100, 100), aimed(1000, 24, 91), yes},
		{simpleSky(), fieldOf(100, 100, 100), aimed(1000, 1, 10), yes},
		{simpleSky(), fieldOf(100, 0, 0), aimed(1000, 19, 100), yes},
		{simpleSky(), fieldOf(100, 0, 0), aimed(1000, 9, 50), no},
		{simpleSky(), fieldOf(100, 0, 100), aimed(1000, 19, 100), yes},
		{simpleSky(), fieldOf(100, -1, 0), aimed(1000, 19, 100), maybe},
		{simpleSky(), fieldOf(0, -100, 100), aimed(1000, 19, 100), yes},
		{simpleSky(), fieldOf(0, -100, 100), aimed(1000, 9, 50), no},
		{simpleSky(), fieldOf(0, -100, 100), aimed(900, 0, 1), yes},
		{simpleSky(), fieldOf(0, -100, 100), aimed(901, 0, 1), no},
		{simpleSky(), fieldOf(100, -100, 100), aimed(101, 0, 1), yes},
		{sky(1, 1, 0, 1, 0), fieldOf(300, -100, 100), aimed(301, 99, 100), no},
		// The second slab reflects at one end, the first or the third one at the other end, too.
		{sky(1, 1, 0, 1, 810000, 1, 0), fieldOf(100, -100, 100), aimed(1000, 1, 4), maybe},
		{sky(1, 1, 990000, 1, 810000), fieldOf(100, -100, 100), aimed(1000, 1, 4), yes},
		{sky(1, 1, 0, 1, 810000, 1, 990000), fieldOf(100, -100, 100), aimed(1000, 1, 4), yes},
	} {
		answer, e := ReflectsWith(x.s, x.f, x.r)
		want(t, "ReflectsWith "+FormatSky(x.s), results(x.f, x.r, answer, e), results(x.f, x.r, x.answer, api.OK))
	}
}

func TestGyroFrequencies(t *testing.T) {
	for _, gyro := range []int{1, 2, 100, 299, 300} {
		for _, f := range []int{1, gyro - 1, gyro, gyro + 1, 3000} {
			if f < 1 {
				continue
			}
			spans, e := IndexSpans(simpleSky(), f, fieldOf(gyro, -100, 100))
			answer, answerError := ReflectsWith(simpleSky(), fieldOf(gyro, -100, 100), aimed(f, 1, 4))
			if f > gyro {
				want(t, "IndexSpans", results(len(spans), e, answerError), results(1, api.OK, api.OK))
				continue
			}
			refused(t, "IndexSpans", api.ErrBreak, spans, e)
			refused(t, "ReflectsWith", api.ErrBreak, answer, answerError)
			spans, e = IndexSpans(simpleSky(), f, fieldOf(gyro, 1, 0))
			refused(t, "IndexSpans with a bad field", api.ErrOrder, spans, e)
			answer, e = ReflectsWith(simpleSky(), fieldOf(gyro, 0, 0), aimed(f, 2, 4))
			refused(t, "ReflectsWith with a bad launch", api.ErrForm, answer, e)
			spans, e = IndexSpans(simpleSky(), f, fieldOf(gyro, 0, 0))
			refused(t, "IndexSpans", api.ErrBreak, spans, e)
		}
	}
}

// irregularField returns a valid field.
func irregularField(seed int) api.RayField {
	next := numbers(seed + 77)
	lo := next(201) - 100
	f := fieldOf(next(301), lo, min(100, lo+next([]int{1, 10, 201}[seed%3])))
	if seed%7 == 0 {
		f.Gyro = 0
	}
	return f
}

// reflectsByDefinition tells for how many components of a range a shot is reflected.
func reflectsByDefinition(s api.RaySky, f api.RayField, r api.RayShot) int {
	count := 0
	for w := f.Along.Lo; w <= f.Along.Hi; w++ {
		for _, slab := range s.Slabs {
			if indexByDefinition(slab.Square, r.Frequency, f.Gyro, w).Cmp(ratio(r.Launch.Num, r.Launch.Den)) <= 0 {
				count++
				break
			}
		}
	}
	return count
}

// By the definitions, for all whole components between both ends.
func TestFieldsByDefinition(t *testing.T) {
	answers := map[int]int{}
	for seed, s := range goodSkies() {
		f := irregularField(seed)
		for i, r := range goodShots(s, seed) {
			spans, e := IndexSpans(s, r.Frequency, f)
			answer, answerError := ReflectsWith(s, f, r)
			if r.Frequency <= f.Gyro {
				refused(t, "IndexSpans", api.ErrBreak, spans, e)
				refused(t, "ReflectsWith", api.ErrBreak, answer, answerError)
				continue
			}
			want(t, "IndexSpans", results(len(spans), e), results(len(s.Slabs), api.OK))
			if i%6 == 0 {
				checkSpans(t, s, r.Frequency, f, spans)
			}
			expected := api.AnswerMaybe
			switch reflectsByDefinition(s, f, r) {
			case 0:
				expected = api.AnswerNo
			case f.Along.Hi - f.Along.Lo + 1:
				expected = api.AnswerYes
			}
			answers[expected]++
			want(t, "ReflectsWith "+FormatSky(s), results(f, r, answer, answerError), results(f, r, expected, api.OK))
		}
	}
	for answer := range 3 {
		if answers[answer] < 100 {
			t.Error("answers:", answers)
		}
	}
}

func checkSpans(t *testing.T, s api.RaySky, frequency int, f api.RayField, spans []api.Span) {
	t.Helper()
	for i, slab := range s.Slabs {
		least, most := new(big.Rat), new(big.Rat)
		for w := f.Along.Lo; w <= f.Along.Hi; w++ {
			index := indexByDefinition(slab.Square, frequency, f.Gyro, w)
			if w == f.Along.Lo || index.Cmp(least) < 0 {
				least = index
			}
			if w == f.Along.Lo || index.Cmp(most) > 0 {
				most = index
			}
		}
		if !isSame(spans[i].Lo, least) || !isSame(spans[i].Hi, most) {
			t.Errorf("IndexSpans %d, %v in %s: %v", frequency, f, FormatSky(s), spans[i])
		}
	}
}

// P5.14

func TestFieldsWithoutEffect(t *testing.T) {
	for seed, s := range goodSkies() {
		for _, r := range goodShots(s, seed) {
			indexes, _ := IndexesOf(s, r.Frequency)
			apex, _ := ApexOf(s, r.Frequency, r.Launch)
			for _, f := range []api.RayField{fieldOf(0, -100, 100), fieldOf(0, 5, 7), fieldOf(min(300, r.Frequency-1), 0, 0)} {
				spans, e := IndexSpans(s, r.Frequency, f)
				want(t, "IndexSpans", results(len(spans), e), results(len(indexes), api.OK))
				for i, index := range indexes {
					want(t, "a span without effect", spans[i], api.Span{Lo: index, Hi: index})
				}
				expected := api.AnswerNo
				if apex.Reflected {
					expected = api.AnswerYes
				}
				answer, e := ReflectsWith(s, f, r)
				want(t, "ReflectsWith a field without effect", results(answer, e), results(expected, api.OK))
			}
		}
	}
}

func TestNarrowerFields(t *testing.T) {
	surely := 0
	for seed, s := range goodSkies() {
		next := numbers(seed)
		f := irregularField(seed)
		for _, r := range goodShots(s, seed) {
			answer, e := ReflectsWith(s, f, r)
			if e != api.OK || answer != api.AnswerYes {
				continue
			}
			lo := f.Along.Lo + next(f.Along.Hi-f.Along.Lo+1)
			narrow := fieldOf(f.Gyro, lo, lo+next(f.Along.Hi-lo+1))
			answer, e = ReflectsWith(s, narrow, r)
			want(t, "ReflectsWith a narrower range", results(answer, e), results(api.AnswerYes, api.OK))
			surely++
		}
	}
	if surely < 100 {
		t.Error("reflected surely:", surely)
	}
}
