package ival

import (
	"math"

	"winnow/api"
	"winnow/word"
)

// Neg is the hull of 0 less the numbers of a; true: none of them wraps.
func Neg(a api.Ival) (api.Ival, bool) {
	return Sub(api.Ival{Lo: 0, Hi: 0}, a)
}

// Add is the hull of the sums; true: none of them wraps.
func Add(a, b api.Ival) (api.Ival, bool) { return gapless(sum, a, b) }

// Sub is the hull of the differences; true: none of them wraps.
func Sub(a, b api.Ival) (api.Ival, bool) { return gapless(difference, a, b) }

// gapless is the hull of the results of an operation that leaves out no number between two results, so that its span tells all.
func gapless(operation func(x, y int64) whole, a, b api.Ival) (api.Ival, bool) {
	if isNone(a) || isNone(b) {
		return none(), true
	}
	results := through(operation)(a, b)
	return results.hull(), results.exact()
}

// Mul is the hull of the products, and true; if one of them wraps, the one product or all numbers, and false.
func Mul(a, b api.Ival) (api.Ival, bool) {
	if isNone(a) || isNone(b) {
		return none(), true
	}
	results := through(product)(a, b)
	if results.exact() || isOne(a) && isOne(b) {
		return results.hull(), results.exact()
	}
	return all(), false
}

// operands are the numbers that an operation takes on one of its sides.
type operands api.Ival

func (o operands) within(part api.Ival) api.Ival { return Meet(api.Ival(o), part) }

// Div is the hull of the quotients, 0 left out of b; true: none of them wraps.
func Div(a, b api.Ival) (api.Ival, bool) {
	// A quotient neither rises nor falls across the divisor 0, and that of the least number and -1 alone wraps.
	dividends, divisors := operands(a).within, operands(b).within
	hull, exact := none(), true
	for _, x := range [2]api.Ival{dividends(least()), dividends(butLeast())} {
		for _, y := range [3]api.Ival{divisors(upTo(-2)), divisors(minusOne()), divisors(from(1))} {
			if isNone(x) || isNone(y) {
				continue
			}
			results := through(quotient)(x, y)
			hull = Join(hull, results.hull())
			exact = exact && results.exact()
		}
	}
	return hull, exact
}

func from(v int64) api.Ival { return api.Ival{Lo: v, Hi: math.MaxInt64} }
func upTo(v int64) api.Ival { return api.Ival{Lo: math.MinInt64, Hi: v} }
func least() api.Ival       { return upTo(math.MinInt64) }
func butLeast() api.Ival    { return from(math.MinInt64 + 1) }
func minusOne() api.Ival    { return api.Ival{Lo: -1, Hi: -1} }

// Rem holds what the divisions leave, 0 left out of b; no remainder wraps.
func Rem(a, b api.Ival) (api.Ival, bool) {
	divisors := operands(b).within
	negative, positive := divisors(upTo(-1)), divisors(from(1))
	if isNone(a) || isNone(negative) && isNone(positive) {
		return none(), true
	}
	if isOne(a) && isOne(b) {
		left, _ := word.Rem(a.Lo, b.Lo)
		return api.Ival{Lo: left, Hi: left}, true
	}
	if farthest(a) < min(nearest(negative), nearest(positive)) {
		return a, true
	}
	// The greatest distance is at least 1 and at most 2^63, so one less is a number.
	bound := int64(farthest(b) - 1)
	return api.Ival{Lo: min(0, max(a.Lo, -bound)), Hi: max(0, min(a.Hi, bound))}, true
}

// distance is that from 0; of the least number it is no int64.
func distance(v int64) uint64 {
	if v < 0 {
		return -uint64(v)
	}
	return uint64(v)
}

// farthest is the greatest distance from 0 of a number of a, which isn't none.
func farthest(a api.Ival) uint64 { return max(distance(a.Lo), distance(a.Hi)) }

// nearest is the least distance from 0 of a number of a, which lies on one side of 0; of none it is beyond all.
func nearest(a api.Ival) uint64 {
	if isNone(a) {
		return math.MaxUint64
	}
	return min(distance(a.Lo), distance(a.Hi))
}
