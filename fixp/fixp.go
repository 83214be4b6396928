// Package fixp is layer 1: it calculates with fixed-point numbers modulo 2^64; see shared/doc/01-fixp.md.
package fixp

import (
	"slices"

	"sakia/api"
)

// lower has the lower half of the bits of a number.
const lower = 1<<32 - 1

// halves returns the lower and the upper 32 bits of a number.
func halves(a int64) [2]uint64 {
	u := uint64(a)
	return [2]uint64{u & lower, u >> 32}
}

// Product returns the product of two numbers with 128 bits: it is hi·2^64 + lo.
func Product(a, b int64) (hi int64, lo uint64) {
	x, y := halves(a), halves(b)
	low := x[0] * y[0]
	// Adding one half to a product of halves never carries out of 64 bits.
	mid := x[1]*y[0] + low>>32
	cross := x[0]*y[1] + mid&lower
	high := x[1]*y[1] + mid>>32 + cross>>32
	// The halves of a negative number are those of the number plus 2^64, so the other factor is too much in the upper bits.
	if a < 0 {
		high -= uint64(b)
	}
	if b < 0 {
		high -= uint64(a)
	}
	return int64(high), cross<<32 | low&lower
}

// Shift returns hi·2^64 + lo, divided by 2^q and rounded down, modulo 2^64; 0, if q is not from 0 to 63.
func Shift(hi int64, lo uint64, q int) int64 {
	if q < 0 || q > 63 {
		return 0
	}
	// For q = 0, the shift by 64 bits leaves nothing of hi, as it should.
	return int64(uint64(hi)<<(64-q) | lo>>q)
}

// right reports whether a number of fraction bits is possible.
func right(q int) bool {
	return q >= 0 && q <= api.MaxShift
}

// Mul returns the product of two fixed-point numbers, rounded down; 0, if q is not from 0 to 62.
func Mul(a, b int64, q int) int64 {
	if !right(q) {
		return 0
	}
	hi, lo := Product(a, b)
	return Shift(hi, lo, q)
}

// Sum returns the sum of numbers modulo 2^64.
func Sum(l ...int64) int64 {
	var total int64
	for a := range slices.Values(l) {
		total += a
	}
	return total
}

// Sub returns the difference of two numbers modulo 2^64.
func Sub(a, b int64) int64 {
	return a - b
}

// One returns the fixed-point number 1; 0, if q is not from 0 to 62.
func One(q int) int64 {
	if !right(q) {
		return 0
	}
	return 1 << q
}

// Relu returns a number, and 0 for negative ones.
func Relu(a int64) int64 {
	return max(a, 0)
}

// Gate returns g, if a is greater than 0, and 0 otherwise.
func Gate(a, g int64) int64 {
	if a > 0 {
		return g
	}
	return 0
}
