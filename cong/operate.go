package cong

import (
	"winnow/api"
	"winnow/word"
)

// Neg is the class of 0 less the numbers of c; exact: none of the results wraps.
func Neg(c api.Cong, exact bool) api.Cong { return Sub(Const(0), c, exact) }

// Add is the class of the sums; exact: none of them wraps.
func Add(c, d api.Cong, exact bool) api.Cong { return onRests(plus, c, d, exact) }

// Sub is the class of the differences; exact: none of them wraps.
func Sub(c, d api.Cong, exact bool) api.Cong { return onRests(minus, c, d, exact) }

// onRests is the class of the results of an operation that is told by what both operands leave.
func onRests(operation func(x, y, m uint64) uint64, c, d api.Cong, exact bool) api.Cong {
	m := gcd(c.M, d.M)
	if !exact {
		// What wraps changes by 2^64, of which the powers of two alone are divisors.
		m = word.Even(m)
	}
	return api.Cong{M: m, R: operation(rest(c, m), rest(d, m), m)}
}

// Mul is the class of the products; exact: none of them wraps.
func Mul(c, d api.Cong, exact bool) api.Cong {
	if isOne(c) && isOne(d) {
		return Const(word.Mul(number(c), number(d)))
	}
	if c == Const(0) || d == Const(0) {
		return Const(0)
	}
	g := step(c, d)
	m := g.lo
	if !exact || g.hi != 0 {
		m = g.powerOfTwo()
	}
	return api.Cong{M: m, R: times(rest(c, m), rest(d, m), m)}
}

// step is the gcd of the product of both Ms and of each class' r times the other one's M. Neither class is the number 0 alone, and at most one has one number.
func step(c, d api.Cong) wide {
	// With a the gcd of c's M and r, and b that of d's, a times b divides all three, and what is left is the gcd of c's M / a and d's M / b. That times the a or b of a class is at most its M.
	a, b := gcd(c.M, size(c)), gcd(d.M, size(d))
	more := gcd(c.M/a, d.M/b)
	if isOne(c) {
		return product(a, b*more)
	}
	return product(a*more, b)
}

// powerOfTwo is the greatest one that divides w, which isn't 0, but at most 2^63.
func (w wide) powerOfTwo() uint64 {
	if w.lo == 0 {
		return 1 << 63
	}
	return word.Even(w.lo)
}

// Div is the class of the quotients, the divisor 0 left out.
func Div(c, d api.Cong) api.Cong {
	if !isOne(d) || d == Const(0) {
		return all()
	}
	if isOne(c) {
		quotient, _ := word.Div(number(c), number(d))
		return Const(quotient)
	}
	by := size(d)
	// Of a class, that of the least number and -1 may be among the quotients, which wraps.
	if d == Const(-1) || c.M%by != 0 || size(c)%by != 0 {
		return all()
	}
	quotients := api.Cong{M: c.M / by, R: size(c) / by}
	if number(d) < 0 {
		return Neg(quotients, true)
	}
	return quotients
}

// Rem is the class of what the divisions leave, the divisor 0 left out.
func Rem(c, d api.Cong) api.Cong {
	if d == Const(0) {
		return all()
	}
	if isOne(c) && isOne(d) {
		left, _ := word.Rem(number(c), number(d))
		return Const(left)
	}
	return classBy(c, gcd(c.M, d.M, size(d)))
}
