package prim

import "math/bits"

const (
	prime     = 1<<61 - 1
	generator = 37
)

// Power: modulo 2^61 - 1.
func Power(base, exponent int) int {
	if base < 0 || base >= prime || exponent < 0 {
		return 0
	}
	power, square := uint64(1), uint64(base)
	for ; exponent > 0; exponent /= 2 {
		if exponent%2 == 1 {
			power = times(power, square)
		}
		square = times(square, square)
	}
	return int(power)
}

// times: a product of two below the prime, modulo it; the product itself needs more than 64 bits.
func times(x, y uint64) uint64 {
	high, low := bits.Mul64(x, y)
	return bits.Rem64(high, low, prime)
}

// Public: what is told of a private number.
func Public(private int) int {
	return Power(generator, private)
}

// Agree: what two agree on.
func Agree(private, public int) int {
	return Power(public, private)
}
