package inv

import (
	"math"
	"slices"

	"winnow/api"
	"winnow/num"
	"winnow/word"
)

// solving is what tells the operands of op, a and b, if its result is in c; nil, if op makes no number.
func solving(op api.Op, a, b, c api.Num) operands {
	switch op {
	case api.OpNeg:
		return func() (api.Num, api.Num) {
			return num.Meet(a, apply(api.OpNeg, c, c)), num.Top()
		}
	case api.OpAdd:
		return func() (api.Num, api.Num) {
			return num.Meet(a, apply(api.OpSub, c, b)), num.Meet(b, apply(api.OpSub, c, a))
		}
	case api.OpSub:
		return func() (api.Num, api.Num) {
			return num.Meet(a, apply(api.OpAdd, c, b)), num.Meet(b, apply(api.OpSub, a, c))
		}
	case api.OpMul:
		return func() (api.Num, api.Num) { return factors(a, b, c) }
	case api.OpDiv:
		return func() (api.Num, api.Num) { return divided(a, num.NonZero(b), c) }
	case api.OpRem:
		return func() (api.Num, api.Num) { return leaving(a, num.NonZero(b), c) }
	}
	return nil
}

// apply is of an operator that makes a number.
func apply(op api.Op, a, b api.Num) api.Num {
	result, _ := num.Apply(op, a, b)
	return result
}

// single is the one number of a; false: it has none or more.
func single(a api.Num) (int64, bool) { return a.I.Lo, !a.Bot && a.I.Lo == a.I.Hi }

// factors are what a and b may be, if their product is in c.
func factors(a, b, c api.Num) (api.Num, api.Num) {
	if !num.Has(c, 0) {
		a, b = num.NonZero(a), num.NonZero(b)
	}
	if a.Bot || b.Bot {
		return a, b
	}
	wraps := slices.ContainsFunc(products(a, b), func(w whole) bool { return !w.fits() })
	return factor(a, b, c, wraps), factor(b, a, c, wraps)
}

// factor is what a may be, if its product with one of other is in c; wraps: the product may wrap.
func factor(a, other, c api.Num, wraps bool) api.Num {
	if v, ok := single(other); ok && v%2 != 0 {
		a = num.Meet(a, apply(api.OpMul, c, num.Const(inverse(v))))
	}
	if !wraps && !num.Has(other, 0) {
		a = num.Meet(a, apply(api.OpDiv, c, other))
	}
	return a
}

// inverse is the number whose product with v, an odd one, wraps to 1.
func inverse(v int64) int64 {
	// The product's lowest 3 bits are right, as an odd number's square is 1 by 8, and each turn makes twice as many right: 6, 12, 24, 48, all.
	w := v
	for range 5 {
		w = word.Mul(w, word.Sub(2, word.Mul(v, w)))
	}
	return w
}

// divided are what a and b, which isn't 0, may be, if the quotient is in c.
func divided(a, b, c api.Num) (api.Num, api.Num) {
	// The one quotient that wraps says nothing of its dividend by products.
	wraps := num.Has(a, math.MinInt64) && num.Has(b, -1) && num.Has(c, math.MinInt64)
	if b.Bot || wraps {
		return a, b
	}
	corners := products(c, b)
	// What a division leaves is nearer to 0 than its divisor. One less than a distance above 0 is a number.
	left := int64(max(distance(b.I.Lo), distance(b.I.Hi)) - 1)
	least, greatest := slices.MinFunc(corners, whole.compare), slices.MaxFunc(corners, whole.compare)
	return num.Meet(a, clipped(least.plus(-left), greatest.plus(left))), b
}

// leaving are what a and b, which isn't 0, may be, if what the division leaves is in c.
func leaving(a, b, c api.Num) (api.Num, api.Num) {
	// What is left has the dividend's sign and isn't farther from 0 than it, but nearer than the divisor.
	switch {
	case b.Bot:
		return a, b
	case c.I.Lo > 0:
		a, b = num.Meet(a, from(number(c.I.Lo))), beyond(b, distance(c.I.Lo))
	case c.I.Hi < 0:
		a, b = num.Meet(a, upTo(number(c.I.Hi))), beyond(b, distance(c.I.Hi))
	}
	if v, ok := single(b); ok {
		step := word.Gcd(distance(v), c.C.M)
		a = num.Meet(a, num.Make(num.Top().I, api.Cong{M: step, R: word.Mod(c.I.Lo, step)}))
	}
	return a, b
}

// beyond is b's numbers that are farther from 0 than k, which is above 0, where they all lie on one side of it.
func beyond(b api.Num, k uint64) api.Num {
	switch {
	case b.I.Lo > 0:
		return num.Meet(b, from(whole{0, k}.plus(1)))
	case b.I.Hi < 0:
		return num.Meet(b, upTo(whole{-1, -k}.plus(-1)))
	}
	return b
}
