package echo

import "skywave/api"

// number returns a sample, or a sum of products of samples and weights, as a complex number; it is exact, as all of them are far less in size than 2^53.
func number(g api.Gauss) complex128 {
	return complex(float64(g.Re), float64(g.Im))
}

// gauss reverses number.
func gauss(z complex128) api.Gauss {
	return api.Gauss{Re: int(real(z)), Im: int(imag(z))}
}

func conjugate(z complex128) complex128 {
	return complex(real(z), -imag(z))
}

// turned returns a number times i to the power of quarters, which may be negative.
func turned(z complex128, quarters int) complex128 {
	for range quarters & 3 {
		z *= 1i
	}
	return z
}

// squareOf returns the square of the size of a number in whole numbers, as that of a numerator may become too great to be exact otherwise.
func squareOf(g api.Gauss) int {
	return g.Re*g.Re + g.Im*g.Im
}
