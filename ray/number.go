package ray

import (
	"sort"

	"skywave/api"
)

// rootLimit is above all roots that are looked for, and so small that its square does not overflow.
const rootLimit = 1 << 31

// reduced returns the fraction of two numbers in lowest terms; den is above 0.
func reduced(num, den int) api.Frac {
	by := commonDivisor(num, den)
	return api.Frac{Num: num / by, Den: den / by}
}

// commonDivisor returns the greatest common divisor of any number and one above 0.
func commonDivisor(a, b int) int {
	for b != 0 {
		a, b = b, a%b
	}
	return max(a, -a)
}

func isAtMost(a, b api.Frac) bool {
	return a.Num*b.Den <= b.Num*a.Den
}

// rootBelow returns the greatest whole number whose square is at most n.
func rootBelow(n int) int {
	return sort.Search(rootLimit, func(m int) bool { return (m+1)*(m+1) > n })
}

// rootOf returns the root of num / den, rounded down and up.
func rootOf(num, den int) api.Range {
	lo := rootBelow(num / den)
	if lo*lo*den == num {
		return api.Range{Lo: lo, Hi: lo}
	}
	return api.Range{Lo: lo, Hi: lo + 1}
}
