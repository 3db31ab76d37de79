package cong

import (
	"testing"

	"winnow/api"
)

// operation is one of the calls; Neg leaves its second operand alone, Div and Rem leave exact alone.
type operation struct {
	name string
	call func(c, d api.Cong, exact bool) api.Cong
}

func operations() []operation {
	neg := func(c, _ api.Cong, exact bool) api.Cong { return Neg(c, exact) }
	div := func(c, d api.Cong, _ bool) api.Cong { return Div(c, d) }
	rem := func(c, d api.Cong, _ bool) api.Cong { return Rem(c, d) }
	return []operation{{"Neg", neg}, {"Add", Add}, {"Sub", Sub}, {"Mul", Mul}, {"Div", div}, {"Rem", rem}}
}

// row is what an operation must answer, exact being true, and false.
type row struct {
	c, d        api.Cong
	exact, wrap api.Cong
}

// hold hands the rows to an operation in all forms.
func hold(t *testing.T, name string, rows []row) {
	t.Helper()
	for _, o := range operations() {
		if o.name != name {
			continue
		}
		for _, x := range rows {
			eachForm(x.c, x.d, func(c, d api.Cong) {
				if got := o.call(c, d, true); got != x.exact {
					t.Errorf("P12.5: %s(%v, %v, true) = %v, want %v", name, c, d, got, x.exact)
				}
				if got := o.call(c, d, false); got != x.wrap {
					t.Errorf("P12.5: %s(%v, %v, false) = %v, want %v", name, c, d, got, x.wrap)
				}
			})
		}
	}
}

func TestNeg(t *testing.T) {
	unused := cl(1, 0)
	hold(t, "Neg", []row{
		{cl(6, 1), unused, cl(6, 5), cl(2, 1)}, {cl(6, 0), unused, cl(6, 0), cl(2, 0)}, {cl(6, 5), unused, cl(6, 1), cl(2, 1)}, {cl(5, 2), unused, cl(5, 3), cl(1, 0)}, {cl(8, 3), unused, cl(8, 5), cl(8, 5)}, {cl(1, 0), unused, cl(1, 0), cl(1, 0)}, {cl(12, 7), unused, cl(12, 5), cl(4, 1)},
		{Const(5), unused, Const(-5), Const(-5)}, {Const(-5), unused, Const(5), Const(5)}, {Const(0), unused, Const(0), Const(0)}, {Const(minInt), unused, Const(minInt), Const(minInt)}, {Const(maxInt), unused, Const(minInt + 1), Const(minInt + 1)},
		{cl(half, 1), unused, cl(half, half-1), cl(half, half-1)}, {cl(half, 0), unused, cl(half, 0), cl(half, 0)}, {cl(half, half-1), unused, cl(half, 1), cl(half, 1)}, {cl(last, 0), unused, cl(last, 0), cl(1, 0)}, {cl(last, 1), unused, cl(last, last-1), cl(1, 0)}, {cl(last, last-1), unused, cl(last, 1), cl(1, 0)}, {cl(last-1, 1), unused, cl(last-1, last-2), cl(2, 1)},
	})
}

func TestAdd(t *testing.T) {
	hold(t, "Add", []row{
		{cl(6, 1), cl(4, 2), cl(2, 1), cl(2, 1)}, {cl(6, 1), Const(3), cl(6, 4), cl(2, 0)}, {Const(3), cl(6, 1), cl(6, 4), cl(2, 0)}, {cl(6, 1), Const(-3), cl(6, 4), cl(2, 0)}, {cl(6, 1), Const(-2), cl(6, 5), cl(2, 1)}, {cl(9, 5), cl(6, 4), cl(3, 0), cl(1, 0)}, {cl(5, 3), cl(5, 4), cl(5, 2), cl(1, 0)}, {cl(12, 7), cl(20, 11), cl(4, 2), cl(4, 2)}, {cl(3, 1), cl(5, 1), cl(1, 0), cl(1, 0)},
		{Const(2), Const(3), Const(5), Const(5)}, {Const(-2), Const(1), Const(-1), Const(-1)}, {Const(maxInt), Const(1), Const(minInt), Const(minInt)}, {Const(minInt), Const(-1), Const(maxInt), Const(maxInt)}, {Const(minInt), Const(minInt), Const(0), Const(0)},
		{cl(last, last-1), cl(last, last-1), cl(last, last-2), cl(1, 0)}, {cl(last, 1), cl(last, last-1), cl(last, 0), cl(1, 0)}, {cl(last, 0), cl(last, 0), cl(last, 0), cl(1, 0)}, {cl(last, last-1), Const(minInt), cl(last, half-2), cl(1, 0)}, {cl(last, 0), Const(-1), cl(last, last-1), cl(1, 0)}, {cl(last-1, last-2), Const(maxInt), cl(last-1, half-2), cl(2, 0)},
		{cl(half, half-1), cl(half, half-1), cl(half, half-2), cl(half, half-2)}, {cl(half, half-1), Const(1), cl(half, 0), cl(half, 0)}, {cl(half, 3), Const(minInt), cl(half, 3), cl(half, 3)}, {cl(half, 3), cl(last, 0), cl(1, 0), cl(1, 0)}, {cl(half, 3), cl(3<<62, 5), cl(1<<62, 8), cl(1<<62, 8)},
	})
}

func TestSub(t *testing.T) {
	hold(t, "Sub", []row{
		{Const(3), cl(6, 1), cl(6, 2), cl(2, 0)}, {cl(6, 1), Const(3), cl(6, 4), cl(2, 0)}, {cl(6, 1), Const(-3), cl(6, 4), cl(2, 0)}, {cl(6, 1), Const(-1), cl(6, 2), cl(2, 0)}, {Const(-1), cl(6, 1), cl(6, 4), cl(2, 0)}, {cl(6, 1), cl(4, 2), cl(2, 1), cl(2, 1)}, {cl(9, 5), cl(6, 4), cl(3, 1), cl(1, 0)}, {cl(5, 3), cl(5, 4), cl(5, 4), cl(1, 0)}, {cl(12, 7), cl(20, 10), cl(4, 1), cl(4, 1)},
		{Const(2), Const(3), Const(-1), Const(-1)}, {Const(minInt), Const(1), Const(maxInt), Const(maxInt)}, {Const(0), Const(minInt), Const(minInt), Const(minInt)}, {Const(maxInt), Const(-1), Const(minInt), Const(minInt)},
		{cl(last, 0), cl(last, last-1), cl(last, 1), cl(1, 0)}, {cl(last, last-1), cl(last, 0), cl(last, last-1), cl(1, 0)}, {cl(last, last-1), Const(minInt), cl(last, half-1), cl(1, 0)}, {Const(minInt), cl(last, last-1), cl(last, half), cl(1, 0)}, {Const(minInt), cl(last-1, 1), cl(last-1, half-3), cl(2, 1)},
		{cl(half, 0), cl(half, half-1), cl(half, 1), cl(half, 1)}, {cl(half, 0), Const(1), cl(half, half-1), cl(half, half-1)}, {Const(0), cl(half, 1), cl(half, half-1), cl(half, half-1)}, {Const(0), cl(6, 1), cl(6, 5), cl(2, 1)},
	})
}

func TestMul(t *testing.T) {
	rows := []row{
		{cl(6, 2), cl(4, 3), cl(2, 0), cl(2, 0)}, {Const(3), cl(1, 0), cl(3, 0), cl(1, 0)}, {Const(12), cl(1, 0), cl(12, 0), cl(4, 0)}, {Const(0), cl(7, 3), Const(0), Const(0)}, {Const(-3), cl(5, 1), cl(15, 12), cl(1, 0)}, {Const(-3), cl(6, 1), cl(18, 15), cl(2, 1)}, {Const(-4), cl(6, 1), cl(24, 20), cl(8, 4)}, {Const(1), cl(7, 3), cl(7, 3), cl(1, 0)}, {Const(-1), cl(7, 3), cl(7, 4), cl(1, 0)},
		// the number 0 alone
		{Const(0), Const(0), Const(0), Const(0)}, {Const(0), Const(minInt), Const(0), Const(0)}, {Const(0), cl(1, 0), Const(0), Const(0)}, {Const(0), cl(last, 5), Const(0), Const(0)}, {Const(0), cl(half, 0), Const(0), Const(0)},
		// numbers alone
		{Const(3), Const(-4), Const(-12), Const(-12)}, {Const(minInt), Const(-1), Const(minInt), Const(minInt)}, {Const(maxInt), Const(2), Const(-2), Const(-2)}, {Const(1 << 32), Const(1 << 32), Const(0), Const(0)},
		// classes
		{cl(6, 0), cl(4, 0), cl(24, 0), cl(8, 0)}, {cl(6, 3), cl(4, 2), cl(12, 6), cl(4, 2)}, {cl(9, 3), cl(6, 3), cl(9, 0), cl(1, 0)}, {cl(5, 2), cl(5, 3), cl(5, 1), cl(1, 0)}, {cl(1, 0), cl(1, 0), cl(1, 0), cl(1, 0)}, {cl(8, 4), cl(8, 4), cl(32, 16), cl(32, 16)}, {cl(5, 2), cl(7, 3), cl(1, 0), cl(1, 0)}, {cl(10, 0), cl(15, 5), cl(50, 0), cl(2, 0)},
		// products of Ms beyond 64 bits, g below
		{cl(last, 1), cl(last, 1), cl(last, 1), cl(1, 0)}, {cl(last, last-1), cl(last, last-1), cl(last, 1), cl(1, 0)}, {cl(last-1, last-2), cl(last-1, last-2), cl(last-1, 1), cl(2, 1)}, {cl(half, 1), cl(half, half-1), cl(half, half-1), cl(half, half-1)}, {cl(last, 1), cl(half, 1), cl(1, 0), cl(1, 0)}, {cl(last, 3), cl(last-1, 2), cl(6, 0), cl(2, 0)},
		{Const(1), cl(last, last-1), cl(last, last-1), cl(1, 0)}, {Const(-1), cl(last, last-1), cl(last, 1), cl(1, 0)}, {Const(2), cl(half-1, 1), cl(last-1, 2), cl(2, 0)}, {Const(2), cl(half-1, half-2), cl(last-1, last-3), cl(2, 0)}, {Const(minInt), cl(1, 0), cl(half, 0), cl(half, 0)},
		// g just below and just above 2^64
		{Const(3), cl(6148914691236517205, 7), cl(last, 21), cl(1, 0)}, {Const(-3), cl(6148914691236517205, 7), cl(last, last-21), cl(1, 0)}, {cl(1<<32-1, 0), cl(1<<32+1, 0), cl(last, 0), cl(1, 0)}, {Const(fermatSmall), cl(fermatGreat, 7), cl(1, 0), cl(1, 0)}, {Const(-fermatSmall), cl(fermatGreat, 7), cl(1, 0), cl(1, 0)}, {cl(fermatSmall, 0), cl(fermatGreat, 0), cl(1, 0), cl(1, 0)},
		// g 2^64 and more
		{Const(2), cl(half, 1), cl(half, 2), cl(half, 2)}, {Const(2), cl(half, half-1), cl(half, half-2), cl(half, half-2)}, {Const(4), cl(half, 1), cl(half, 4), cl(half, 4)}, {Const(minInt), cl(2, 1), cl(half, 0), cl(half, 0)}, {Const(minInt), cl(last, 1), cl(half, 0), cl(half, 0)}, {Const(minInt), cl(half, 1), cl(half, 0), cl(half, 0)}, {Const(3), cl(last, 1), cl(1, 0), cl(1, 0)}, {Const(6), cl(last-1, 1), cl(4, 2), cl(4, 2)}, {Const(maxInt), cl(last, 7), cl(1, 0), cl(1, 0)},
		{cl(half, 0), cl(half, 0), cl(half, 0), cl(half, 0)}, {cl(half, 0), cl(2, 0), cl(half, 0), cl(half, 0)}, {cl(half, 0), cl(2, 1), cl(half, 0), cl(half, 0)}, {cl(last, 0), cl(last, 0), cl(1, 0), cl(1, 0)}, {cl(last-1, 0), cl(last-1, 0), cl(4, 0), cl(4, 0)}, {cl(1<<32, 0), cl(1<<32, 0), cl(half, 0), cl(half, 0)}, {cl(1<<32, 0), cl(1<<31, 0), cl(half, 0), cl(half, 0)}, {cl(1<<32, 0), cl(1<<31, 1), cl(1<<32, 0), cl(1<<32, 0)}, {cl(3<<31, 0), cl(1<<32, 0), cl(half, 0), cl(half, 0)}, {cl(5<<30, 0), cl(1<<32, 0), cl(1<<62, 0), cl(1<<62, 0)}, {cl(3<<30, 0), cl(1<<32, 0), cl(3<<62, 0), cl(1<<62, 0)},
	}
	hold(t, "Mul", rows)
	for i, x := range rows {
		rows[i].c, rows[i].d = x.d, x.c
	}
	hold(t, "Mul", rows)
}

// same is a row of an operation that exact has no say in.
func same(c, d, want api.Cong) row { return row{c, d, want, want} }

func TestDiv(t *testing.T) {
	all := cl(1, 0)
	hold(t, "Div", []row{
		same(cl(6, 4), Const(2), cl(3, 2)), same(cl(6, 4), Const(4), all), same(Const(-7), Const(2), Const(-3)), same(cl(6, 0), Const(-3), cl(2, 0)), same(cl(6, 3), Const(-3), cl(2, 1)), same(cl(12, 8), Const(-4), cl(3, 1)), same(cl(12, 8), Const(-2), cl(6, 2)), same(cl(12, 8), Const(4), cl(3, 2)), same(cl(12, 8), Const(3), all), same(cl(12, 8), Const(8), all), same(cl(12, 8), Const(24), all), same(cl(12, 0), Const(12), all), same(cl(12, 0), Const(24), all), same(cl(12, 0), Const(-12), all), same(cl(12, 6), Const(6), cl(2, 1)), same(cl(12, 6), Const(-6), cl(2, 1)), same(cl(15, 10), Const(-5), cl(3, 1)),
		// by 1, -1, 0
		same(cl(6, 4), Const(1), cl(6, 4)), same(cl(1, 0), Const(1), all), same(cl(last, last-1), Const(1), cl(last, last-1)), same(cl(6, 4), Const(-1), all), same(cl(half, 0), Const(-1), all), same(cl(1, 0), Const(-1), all), same(cl(6, 4), Const(0), all), same(cl(6, 0), Const(0), all), same(cl(1, 0), Const(0), all),
		// numbers alone
		same(Const(7), Const(2), Const(3)), same(Const(7), Const(-2), Const(-3)), same(Const(7), Const(-1), Const(-7)), same(Const(minInt), Const(-1), Const(minInt)), same(Const(minInt), Const(1), Const(minInt)), same(Const(minInt), Const(minInt), Const(1)), same(Const(maxInt), Const(minInt), Const(0)), same(Const(0), Const(5), Const(0)), same(Const(5), Const(0), all), same(Const(0), Const(0), all), same(Const(minInt), Const(0), all),
		// by the least number, and by great ones
		same(cl(half, 0), Const(minInt), all), same(cl(half, half/2), Const(minInt), all), same(cl(last, 0), Const(minInt), all), same(cl(half, half/2), Const(minInt/2), cl(2, 1)), same(cl(half, half/2), Const(-minInt/2), cl(2, 1)), same(cl(3<<62, 1<<62), Const(minInt/2), cl(3, 2)), same(cl(3<<62, 1<<62), Const(1<<62), cl(3, 1)), same(cl(3<<62, 0), Const(minInt), all), same(cl(last-1, last-3), Const(maxInt), all), same(cl(last-1, 0), Const(maxInt), cl(2, 0)), same(cl(last-1, half-1), Const(maxInt), cl(2, 1)), same(cl(last-1, half-1), Const(-maxInt), cl(2, 1)), same(cl(last, 0), Const(3), cl(6148914691236517205, 0)), same(cl(last, 3), Const(-3), cl(6148914691236517205, 6148914691236517204)),
		// by a class
		same(cl(6, 4), cl(2, 0), all), same(cl(6, 4), cl(1, 0), all), same(Const(6), cl(2, 0), all), same(Const(0), cl(2, 1), all), same(cl(6, 0), cl(last, 2), all), same(Const(minInt), cl(last, last-1), all),
	})
}

func TestRem(t *testing.T) {
	all := cl(1, 0)
	hold(t, "Rem", []row{
		same(cl(6, 1), Const(4), cl(2, 1)), same(cl(6, 1), cl(4, 2), cl(2, 1)), same(Const(7), cl(6, 0), cl(6, 1)), same(Const(-7), Const(2), Const(-1)), same(cl(6, 1), Const(-4), cl(2, 1)), same(cl(6, 1), Const(6), cl(6, 1)), same(cl(6, 5), Const(-12), cl(6, 5)), same(cl(6, 5), Const(-9), cl(3, 2)), same(cl(6, 5), Const(1), all), same(cl(6, 5), Const(-1), all), same(cl(6, 5), Const(5), all),
		// numbers alone, and 0
		same(Const(7), Const(-2), Const(1)), same(Const(minInt), Const(-1), Const(0)), same(Const(minInt), Const(maxInt), Const(-1)), same(Const(maxInt), Const(minInt), Const(maxInt)), same(Const(3), Const(0), all), same(Const(0), Const(0), all), same(cl(6, 1), Const(0), all), same(cl(last, 1), Const(0), all), same(cl(half, 0), Const(0), all),
		// by classes
		same(Const(-7), cl(6, 0), cl(6, 5)), same(Const(-7), cl(6, 3), cl(3, 2)), same(Const(-7), cl(6, 1), all), same(cl(12, 7), cl(8, 4), cl(4, 3)), same(cl(12, 7), cl(9, 6), cl(3, 1)), same(cl(12, 7), cl(1, 0), all), same(Const(0), cl(6, 0), cl(6, 0)), same(Const(0), cl(6, 4), cl(2, 0)),
		// great ones
		same(cl(last, last-1), Const(minInt), all), same(cl(half, half-1), Const(minInt), cl(half, half-1)), same(cl(half, 7), Const(minInt/2), cl(1<<62, 7)), same(Const(minInt), cl(last, 0), cl(last, half-1)), same(Const(-1), cl(last, 0), cl(last, last-1)), same(Const(-1), cl(half, 0), cl(half, half-1)), same(Const(-1), cl(last, 3), cl(3, 2)), same(cl(last, 4), cl(last, 0), cl(last, 4)), same(cl(last, 4), cl(last, last-3), cl(3, 1)), same(cl(last, 4), cl(half, 0), all), same(cl(last-1, last-2), Const(-maxInt), cl(maxInt, maxInt-1)),
	})
}
