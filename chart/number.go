package chart

import (
	"math/bits"

	"skywave/api"
)

// reduced returns the fraction of two numbers in lowest terms; den is above 0.
func reduced(num, den int) api.Frac {
	by := commonDivisor(num, den)
	return api.Frac{Num: num / by, Den: den / by}
}

// commonDivisor returns the greatest common divisor of any number and one above 0.
func commonDivisor(a, b int) int {
	for b != 0 {
		a, b = b, a%b
	}
	return max(a, -a)
}

// minus returns a fraction less a whole number. In lowest terms it stays so.
func minus(f api.Frac, n int) api.Frac {
	return api.Frac{Num: f.Num - n*f.Den, Den: f.Den}
}

// isLess compares fractions from 0 on, whose products may need two words.
func isLess(a, b api.Frac) bool {
	highA, lowA := bits.Mul64(uint64(a.Num), uint64(b.Den))
	highB, lowB := bits.Mul64(uint64(b.Num), uint64(a.Den))
	return highA < highB || highA == highB && lowA < lowB
}

func floorOf(f api.Frac) int {
	n := f.Num / f.Den
	if f.Num < n*f.Den {
		return n - 1
	}
	return n
}

func ceilingOf(f api.Frac) int {
	return -floorOf(api.Frac{Num: -f.Num, Den: f.Den})
}

func isLarge(f api.Frac) bool {
	return f.Den > api.MaxPart || outside(f.Num, -api.MaxPart, api.MaxPart)
}

func isLargeSpan(s api.Span) bool {
	return isLarge(s.Lo) || isLarge(s.Hi)
}
