package forecast

import (
	"fmt"
	"math/big"
	"testing"

	"skywave/api"
)

// P7.5

func TestCheckRule(t *testing.T) {
	for _, r := range []api.ForecastRule{{}, rule(3, 50, 100), rule(9, 1000, 1000), rule(0, 1000, 0), rule(9, 0, 1000)} {
		want(t, "CheckRule", CheckRule(r), api.OK)
	}
	for _, r := range badRules() {
		want(t, fmt.Sprint("CheckRule of ", r), CheckRule(r), api.ErrRange)
	}
}

func TestMovedBy(t *testing.T) {
	for _, x := range []struct {
		r        api.ForecastRule
		usable   api.Range
		activity int
		moved    api.Range
	}{
		{rule(3, 50, 100), rangeOf(400, 800), 5, rangeOf(480, 720)},
		{rule(3, 50, 100), rangeOf(400, 800), 3, rangeOf(400, 800)},
		{rule(3, 50, 100), rangeOf(400, 800), 0, rangeOf(400, 800)},
		{rule(3, 50, 100), rangeOf(400, 800), 4, rangeOf(440, 760)},
		{rule(3, 50, 100), rangeOf(400, 800), 7, rangeOf(560, 640)},
		{rule(3, 50, 100), rangeOf(400, 800), 8, rangeOf(600, 600)},
		{rule(0, 1, 1), rangeOf(1, 999), 1, rangeOf(2, 998)},
		{rule(0, 1, 1), rangeOf(1, 1000), 1, rangeOf(2, 999)},
		{rule(0, 1, 1), rangeOf(1000, 1003), 1, rangeOf(1001, 1001)},
		{rule(0, 1, 1), rangeOf(0, 1), 1, rangeOf(0, 0)},
		{rule(0, 1000, 1000), rangeOf(0, 3000), 1, rangeOf(0, 0)},
		{rule(0, 1000, 1000), rangeOf(0, 3000), 9, rangeOf(0, 0)},
		{rule(0, 112, 1000), rangeOf(0, 3000), 9, rangeOf(0, 0)},
		{rule(0, 111, 1000), rangeOf(0, 3000), 9, rangeOf(0, 3)},
		{rule(0, 0, 1000), rangeOf(0, 3000), 9, rangeOf(0, 3000)},
		{rule(0, 0, 1000), rangeOf(300, 3000), 9, rangeOf(3000, 3000)},
		{rule(0, 1000, 0), rangeOf(0, 3000), 9, rangeOf(0, 0)},
		{rule(0, 0, 0), rangeOf(3000, 3000), 9, rangeOf(3000, 3000)},
		{rule(9, 1000, 1000), rangeOf(3000, 3000), 9, rangeOf(3000, 3000)},
		{rule(8, 500, 0), rangeOf(1, 3), 9, rangeOf(1, 1)},
	} {
		moved, e := MovedBy(x.r, x.usable, x.activity)
		want(t, fmt.Sprint("MovedBy ", x.r, x.usable, x.activity), results(moved, e), results(x.moved, api.OK))
	}
	for _, x := range []struct {
		r        api.ForecastRule
		usable   api.Range
		activity int
	}{
		{rule(3, 50, 100), rangeOf(400, 799), 8},
		{rule(3, 50, 100), rangeOf(400, 800), 9},
		{rule(0, 0, 1000), rangeOf(301, 3000), 9},
		{rule(0, 0, 1000), rangeOf(3000, 3000), 9},
		{rule(0, 1000, 0), rangeOf(1, 3000), 1},
		{rule(0, 1, 1), rangeOf(1000, 1001), 1},
	} {
		moved, e := MovedBy(x.r, x.usable, x.activity)
		refused(t, fmt.Sprint("MovedBy ", x.r, x.usable, x.activity), api.ErrNone, moved, e)
	}
}

func TestMovedByDefinition(t *testing.T) {
	ends := []int{0, 1, 2, 7, 299, 300, 333, 1000, 1001, 2999, 3000}
	parts := []int{0, 1, 3, 50, 111, 112, 125, 200, 333, 500, 999, 1000}
	for i, lower := range parts {
		for _, raise := range []int{0, 1, parts[i], 7, 100, 1000} {
			for quiet := range 10 {
				for _, lo := range ends {
					for _, hi := range ends {
						if lo > hi {
							continue
						}
						r, usable := rule(quiet, lower, raise), rangeOf(lo, hi)
						for _, activity := range []int{0, quiet, (3*i + lo) % 10, 9} {
							moved, e := MovedBy(r, usable, activity)
							expected := movedByDefinition(r, usable, activity)
							if expected.Lo > expected.Hi {
								refused(t, "MovedBy", api.ErrNone, moved, e)
								continue
							}
							want(t, fmt.Sprint("MovedBy ", r, usable, activity), results(moved, e), results(expected, api.OK))
						}
					}
				}
			}
		}
	}
}

// movedByDefinition returns the moved ends, whatever their order is.
func movedByDefinition(r api.ForecastRule, usable api.Range, activity int) api.Range {
	n := 0
	for step := r.Quiet; step < activity; step++ {
		n++
	}
	less := 1000
	for range n {
		less -= r.Lower
	}
	if less < 0 {
		less = 0
	}
	hi := new(big.Rat).Mul(ratio(usable.Hi, 1), ratio(less, 1000))
	lo := new(big.Rat).Mul(ratio(usable.Lo, 1), ratio(1000+n*r.Raise, 1000))
	above := new(big.Int).Div(lo.Num(), lo.Denom())
	if !lo.IsInt() {
		above.Add(above, big.NewInt(1))
	}
	below := new(big.Int).Div(hi.Num(), hi.Denom())
	return rangeOf(int(above.Int64()), int(below.Int64()))
}

// P7.11

func TestNarrower(t *testing.T) {
	for seed := range 2000 {
		next := numbers(seed + 2100)
		r := rule(next(10), next(1+next(1001)), next(1+next(1001)))
		lo := next(3001)
		usable := rangeOf(lo, lo+next(3001-lo))
		last, gone := usable, false
		for activity := range 10 {
			moved, e := MovedBy(r, usable, activity)
			if activity <= r.Quiet {
				want(t, "MovedBy of a quiet day", results(moved, e), results(usable, api.OK))
			}
			if e != api.OK {
				want(t, "MovedBy", e, api.ErrNone)
				gone = true
				continue
			}
			if gone || moved.Lo < last.Lo || moved.Hi > last.Hi {
				t.Errorf("%v moved by %v at %d: %v after %v", usable, r, activity, moved, last)
			}
			last = moved
		}
	}
}
