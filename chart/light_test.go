package chart

import (
	"fmt"
	"testing"

	"skywave/api"
)

// P6.5

func TestLitAt(t *testing.T) {
	sun, at := vector(100, 0, 10), vector(50, 80, 0)
	most, least := vector(1000, 1000, 1000), vector(-1000, -1000, -1000)
	for _, x := range []struct {
		sun, place       api.ChartVector
		twilight, answer int
	}{
		{sun, at, 1000, api.AnswerYes},
		{sun, at, 4999, api.AnswerYes},
		{sun, at, 5000, api.AnswerMaybe},
		{sun, at, 5001, api.AnswerMaybe},
		{vector(0, -100, 10), at, 1000, api.AnswerNo},
		{vector(0, -100, 10), at, 7999, api.AnswerNo},
		{vector(0, -100, 10), at, 8000, api.AnswerMaybe},
		{vector(0, -100, 10), at, 8001, api.AnswerMaybe},
		{vector(1, 0, 0), vector(0, 1, 0), 0, api.AnswerMaybe},
		{vector(1, 0, 0), vector(1, 0, 0), 0, api.AnswerYes},
		{vector(1, 0, 0), vector(-1, 0, 0), 0, api.AnswerNo},
		{vector(0, 1, 0), vector(0, 1, 0), 0, api.AnswerYes},
		{vector(0, 0, 1), vector(0, 0, -1), 0, api.AnswerNo},
		{vector(0, 0, 1), vector(0, 0, 1), 0, api.AnswerYes},
		{vector(1, 2, 3), vector(4, -5, 2), 0, api.AnswerMaybe},
		{vector(1, 2, 3), vector(4, -5, 3), 0, api.AnswerYes},
		{vector(1, 2, 3), vector(3, -5, 2), 0, api.AnswerNo},
		{most, most, 2999999, api.AnswerYes},
		{most, most, 3000000, api.AnswerMaybe},
		{most, most, 4000000, api.AnswerMaybe},
		{most, least, 2999999, api.AnswerNo},
		{most, least, 3000000, api.AnswerMaybe},
		{least, least, 0, api.AnswerYes},
	} {
		answer, e := LitAt(x.sun, x.place, x.twilight)
		want(t, fmt.Sprint("LitAt ", x.sun, x.place, x.twilight), results(answer, e), results(x.answer, api.OK))
	}
}

func TestSunAt(t *testing.T) {
	for quarter, v := range []api.ChartVector{vector(7, 3, 10), vector(3, -7, 10), vector(-7, -3, 10), vector(-3, 7, 10)} {
		for _, n := range []int{quarter, quarter + 4, quarter + 400, quarter + 1000000000000 - 4} {
			sun, e := SunAt(api.ChartDay{Noon: vector(7, 3, 10)}, n)
			want(t, fmt.Sprint("SunAt ", n), results(sun, e), results(v, api.OK))
		}
	}
	sun, e := SunAt(api.ChartDay{Noon: vector(100, 0, 10)}, 1)
	want(t, "SunAt 1", results(sun, e), results(vector(0, -100, 10), api.OK))
	sun, e = SunAt(api.ChartDay{Noon: vector(1000, -1000, -1000)}, 1000000000000)
	want(t, "SunAt the last quarter", results(sun, e), results(vector(1000, -1000, -1000), api.OK))
}

func goodVectors() []api.ChartVector {
	list := []api.ChartVector{vector(1000, 1000, 1000), vector(-1000, 0, 0), vector(0, -1000, 0), vector(0, 0, -1000), vector(0, 0, 1)}
	next := numbers(8)
	for range 40 {
		list = append(list, vector(next(2001)-1000, next(21)-10, 1+next(30)), vector(1+next(10), next(10), 0), vector(-1, next(3)-1, 0))
	}
	return list
}

// P6.13

func TestDay(t *testing.T) {
	for _, noon := range goodVectors() {
		for _, quarter := range []int{0, 1, 2, 3, 4, 17, 999999999994} {
			day := api.ChartDay{Noon: noon}
			sun, e := SunAt(day, quarter)
			want(t, "SunAt", e, api.OK)
			next, _ := SunAt(day, quarter+1)
			want(t, "the sun a quarter later", next, vector(sun.Y, -sun.X, sun.Z))
			half, _ := SunAt(day, quarter+2)
			want(t, "the sun two quarters later", half, vector(-sun.X, -sun.Y, sun.Z))
			same, _ := SunAt(day, quarter+4)
			want(t, "the sun four quarters later", same, sun)
		}
	}
}

func TestLightAndDark(t *testing.T) {
	opposite := map[int]int{api.AnswerNo: api.AnswerYes, api.AnswerMaybe: api.AnswerMaybe, api.AnswerYes: api.AnswerNo}
	for _, noon := range goodVectors() {
		if noon.X == 0 && noon.Y == 0 {
			continue
		}
		noon.Z = 0
		for _, at := range goodVectors() {
			for quarter := range 4 {
				sun, _ := SunAt(api.ChartDay{Noon: noon}, quarter)
				later, _ := SunAt(api.ChartDay{Noon: noon}, quarter+2)
				first, e := LitAt(sun, at, 0)
				second, o := LitAt(later, at, 0)
				want(t, "the answer two quarters later", results(second, e, o), results(opposite[first], api.OK, api.OK))
			}
		}
	}
}
