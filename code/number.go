package code

import "skywave/api"

// powersOfI holds whole numbers rather than complex ones, so that waves are compared with it directly.
var powersOfI = [4]api.Gauss{{Re: 1}, {Im: 1}, {Re: -1}, {Im: -1}}

// powerOfI returns i to the power of n, which may be negative.
func powerOfI(n int) complex128 {
	return number(powersOfI[n&3])
}

// number returns a sample, or a sum of samples, as a complex number; it is exact, as all of them are far less in size than 2^53.
func number(g api.Gauss) complex128 {
	return complex(float64(g.Re), float64(g.Im))
}

// gauss reverses number.
func gauss(z complex128) api.Gauss {
	return api.Gauss{Re: int(real(z)), Im: int(imag(z))}
}

func conjugate(z complex128) complex128 {
	return complex(real(z), -imag(z))
}

// squareOf returns the square of the size of a number in whole numbers, as sums of it may become too great to be exact otherwise.
func squareOf(g api.Gauss) int {
	return g.Re*g.Re + g.Im*g.Im
}
