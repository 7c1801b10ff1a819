package forecast

import "skywave/api"

// reduced returns the fraction of two numbers in lowest terms; num is at least 0, and den above 0.
func reduced(num, den int) api.Frac {
	by := commonDivisor(num, den)
	return api.Frac{Num: num / by, Den: den / by}
}

// commonDivisor returns the greatest common divisor of a number from 0 on and one above 0.
func commonDivisor(a, b int) int {
	for b != 0 {
		a, b = b, a%b
	}
	return a
}

// dividedUp returns the quotient of a number from 0 on and one above 0, rounded up.
func dividedUp(n, by int) int {
	return (n + by - 1) / by
}
