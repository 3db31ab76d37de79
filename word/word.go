// Package word is layer 1: see shared/doc/01-word.md.
package word

import "math/bits"

// wrapping makes an operation on numbers of one on their bits: bits wrap by themselves, so no end of the range is a case of its own.
func wrapping(onBits func(x, y uint64) uint64) func(a, b int64) int64 {
	return func(a, b int64) int64 {
		return int64(onBits(uint64(a), uint64(b)))
	}
}

func addBits(x, y uint64) uint64 { return x + y }
func subBits(x, y uint64) uint64 { return x - y }
func mulBits(x, y uint64) uint64 { return x * y }

// Add is the sum, wrapped.
func Add(a, b int64) int64 { return wrapping(addBits)(a, b) }

// Sub is the difference, wrapped.
func Sub(a, b int64) int64 { return wrapping(subBits)(a, b) }

// Mul is the product, wrapped.
func Mul(a, b int64) int64 { return wrapping(mulBits)(a, b) }

// Neg is 0 less a, wrapped.
func Neg(a int64) int64 { return wrapping(subBits)(0, a) }

// Div is the quotient rounded to zero, wrapped; false: b is 0.
func Div(a, b int64) (int64, bool) {
	if b == 0 {
		return 0, false
	}
	return a / b, true
}

// Rem is what Div's quotient leaves of a; false: b is 0.
func Rem(a, b int64) (int64, bool) {
	if b == 0 {
		return 0, false
	}
	return a % b, true
}

// Wide is the exact product: its upper half, with the sign, and its lower half.
func Wide(a, b int64) (int64, uint64) {
	hi, lo := bits.Mul64(uint64(a), uint64(b))
	// The bits of a number below 0 are 2^64 too great, so each such factor put the other one into the upper half once too often.
	if a < 0 {
		hi -= uint64(b)
	}
	if b < 0 {
		hi -= uint64(a)
	}
	return int64(hi), lo
}

// Gcd is the greatest number that divides both; the other one, if one of them is 0.
func Gcd(a, b uint64) uint64 {
	for b != 0 {
		a, b = b, a%b
	}
	return a
}

// Even is the greatest power of two that divides m; of 0: 0.
func Even(m uint64) uint64 {
	return m & (0 - m)
}

// Mod is by how much v is above a multiple of m; of m 0 it is v's bits.
func Mod(v int64, m uint64) uint64 {
	if m == 0 {
		return uint64(v)
	}
	if v >= 0 {
		return uint64(v) % m
	}
	// The absolute value is taken on bits, since MinInt's is no int64.
	below := (0 - uint64(v)) % m
	if below == 0 {
		return 0
	}
	return m - below
}
