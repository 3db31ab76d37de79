package cong

import (
	"math"
	"math/bits"

	"winnow/api"
	"winnow/word"
)

// Meet is what both have in common of the numbers; false: nothing.
func Meet(c, d api.Cong) (api.Cong, bool) {
	if isOne(c) {
		return only(c, Leq(c, d))
	}
	if isOne(d) {
		return only(d, Leq(d, c))
	}
	g := gcd(c.M, d.M)
	if classBy(c, g) != classBy(d, g) {
		return api.Cong{}, false
	}
	return common(Norm(c), Norm(d), g)
}

// only is c, if it is in the answer at all.
func only(c api.Cong, in bool) (api.Cong, bool) {
	if !in {
		return api.Cong{}, false
	}
	return c, true
}

// common is what two classes of more than one number have in common, if they have; g is the gcd of their Ms.
func common(c, d api.Cong, g uint64) (api.Cong, bool) {
	// Of c's numbers from R on, each M further, every so many-th is in d: that many times M is the least common multiple.
	many := d.M / g
	gap := minus(rest(d, d.M), rest(c, d.M), d.M) / g
	first := times(gap, inverse(c.M/g%many, many), many)
	least := wide{0, c.R}.plus(product(c.M, first))
	multiple := product(c.M, many)
	if multiple.hi == 0 {
		return api.Cong{M: multiple.lo, R: least.lo}, true
	}
	// All others of the class are 2^64 or more away from 0.
	if least.hi == 0 && least.lo <= math.MaxInt64 {
		return Const(int64(least.lo)), true
	}
	below := multiple.minus(least)
	return only(Const(word.Neg(int64(below.lo))), below.hi == 0 && below.lo <= 1<<63)
}

// times is what x times y leaves by m.
func times(x, y, m uint64) uint64 {
	p := product(x, y)
	return bits.Rem64(p.hi, p.lo, m)
}

// inverse is the number below m that a times leaves 1 by m (of m 1: 0); a is below m, and they have no divisor in common.
func inverse(a, m uint64) uint64 {
	// Euclid's way down; each remainder is a times its factor, by m. The factor of the remainder 1 is at most half of m away from 0, so none wraps.
	above, left := m, a
	factorAbove, factor := int64(0), int64(1)
	for left > 1 {
		quotient := above / left
		above, left = left, above%left
		factorAbove, factor = factor, factorAbove-int64(quotient)*factor
	}
	return word.Mod(factor, m)
}

// wide is the whole number hi times 2^64 and lo.
type wide struct {
	hi, lo uint64
}

func product(x, y uint64) wide {
	hi, lo := bits.Mul64(x, y)
	return wide{hi, lo}
}

// plus is of numbers whose sum is wide.
func (w wide) plus(v wide) wide {
	lo, carry := bits.Add64(w.lo, v.lo, 0)
	return wide{w.hi + v.hi + carry, lo}
}

// minus is of v not above w.
func (w wide) minus(v wide) wide {
	lo, borrow := bits.Sub64(w.lo, v.lo, 0)
	return wide{w.hi - v.hi - borrow, lo}
}
