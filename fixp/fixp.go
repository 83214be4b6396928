// Package fixp is layer 1: it calculates with fixed-point numbers modulo 2^64; see shared/doc/01-fixp.md.
package fixp

import (
	"math/bits"
	"slices"

	"sakia/api"
)

// Product returns the product of two numbers with 128 bits: it is hi·2^64 + lo.
func Product(a, b int64) (hi int64, lo uint64) {
	var parts [2]uint64
	parts[1], parts[0] = bits.Mul64(uint64(a), uint64(b))
	// A negative number was multiplied as itself plus 2^64, so the other one is too much in the upper part.
	if a < 0 {
		parts[1] -= uint64(b)
	}
	if b < 0 {
		parts[1] -= uint64(a)
	}
	return int64(parts[1]), parts[0]
}

// Shift returns hi·2^64 + lo, divided by 2^q and rounded down, modulo 2^64; 0, if q is not from 0 to 63.
func Shift(hi int64, lo uint64, q int) int64 {
	if q < 0 || q > 63 {
		return 0
	}
	// For q = 0, the shift by 64 bits leaves nothing of hi, as it should.
	return int64(uint64(hi)<<(64-q) | lo>>q)
}

// right reports whether a number of fraction bits is possible.
func right(q int) bool {
	return q >= 0 && q <= api.MaxShift
}

// Mul returns the product of two fixed-point numbers, rounded down; 0, if q is not from 0 to 62.
func Mul(a, b int64, q int) int64 {
	if !right(q) {
		return 0
	}
	hi, lo := Product(a, b)
	return Shift(hi, lo, q)
}

// Sum returns the sum of numbers modulo 2^64.
func Sum(l ...int64) int64 {
	var total int64
	for a := range slices.Values(l) {
		total += a
	}
	return total
}

// Sub returns the difference of two numbers modulo 2^64.
func Sub(a, b int64) int64 {
	return a - b
}

// One returns the fixed-point number 1; 0, if q is not from 0 to 62.
func One(q int) int64 {
	if !right(q) {
		return 0
	}
	return 1 << q
}

// Relu returns a number, and 0 for negative ones.
func Relu(a int64) int64 {
	return max(a, 0)
}

// Gate returns g, if a is greater than 0, and 0 otherwise.
func Gate(a, g int64) int64 {
	if a > 0 {
		return g
	}
	return 0
}
