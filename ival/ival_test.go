package ival

import (
	"math"
	"testing"

	"winnow/api"
)

const (
	minInt = math.MinInt64
	maxInt = math.MaxInt64
)

func iv(lo, hi int64) api.Ival { return api.Ival{Lo: lo, Hi: hi} }

// nones are intervals without numbers, in forms other than the one that is answered, and that one.
func nones() []api.Ival {
	return []api.Ival{iv(1, 0), iv(7, 5), iv(0, -1), iv(-1, -2), iv(maxInt, minInt), iv(minInt+1, minInt), iv(maxInt, maxInt-1), iv(3, -3), iv(0, minInt)}
}

// somes are intervals of one number and of more, at the ends of the numbers and around 0.
func somes() []api.Ival {
	return []api.Ival{
		iv(0, 0), iv(1, 1), iv(-1, -1), iv(7, 7), iv(minInt, minInt), iv(maxInt, maxInt), iv(minInt+1, minInt+1), iv(1, 2), iv(-3, 5), iv(0, 9), iv(-9, 0),
		iv(minInt, maxInt), iv(minInt, 0), iv(0, maxInt), iv(minInt, -1), iv(1, maxInt), iv(minInt, minInt+1), iv(maxInt-1, maxInt), iv(minInt+1, maxInt),
	}
}

// operation is one of the calls that tell whether a result wraps; Neg leaves its second operand alone.
type operation struct {
	name string
	call func(a, b api.Ival) (api.Ival, bool)
}

func operations() []operation {
	neg := func(a, _ api.Ival) (api.Ival, bool) { return Neg(a) }
	return []operation{{"Neg", neg}, {"Add", Add}, {"Sub", Sub}, {"Mul", Mul}, {"Div", Div}, {"Rem", Rem}}
}

func named(t *testing.T, name string) operation {
	t.Helper()
	for _, o := range operations() {
		if o.name == name {
			return o
		}
	}
	t.Fatalf("there is no operation %s", name)
	return operation{}
}

func TestHas(t *testing.T) {
	for _, c := range []struct {
		a    api.Ival
		v    int64
		want bool
	}{
		{iv(1, 3), 0, false}, {iv(1, 3), 1, true}, {iv(1, 3), 2, true}, {iv(1, 3), 3, true}, {iv(1, 3), 4, false},
		{iv(5, 5), 5, true}, {iv(5, 5), 4, false}, {iv(5, 5), 6, false}, {iv(-5, -2), -3, true}, {iv(-5, -2), 3, false},
		{iv(3, 1), 1, false}, {iv(3, 1), 2, false}, {iv(3, 1), 3, false}, {iv(1, 0), 0, false}, {iv(1, 0), 1, false},
		{iv(minInt, maxInt), minInt, true}, {iv(minInt, maxInt), maxInt, true}, {iv(minInt, maxInt), 0, true},
		{iv(minInt+1, maxInt-1), minInt, false}, {iv(minInt+1, maxInt-1), maxInt, false}, {iv(maxInt, minInt), 0, false},
	} {
		if got := Has(c.a, c.v); got != c.want {
			t.Errorf("P11.1: Has(%v, %d) = %v, want %v", c.a, c.v, got, c.want)
		}
	}
}

func TestLeq(t *testing.T) {
	for _, c := range []struct {
		a, b api.Ival
		want bool
	}{
		{iv(7, 5), iv(1, 0), true}, {iv(1, 0), iv(7, 5), true}, {iv(1, 0), iv(3, 3), true}, {iv(9, 2), iv(3, 4), true}, {iv(3, 3), iv(1, 0), false}, {iv(3, 3), iv(4, 2), false},
		{iv(1, 2), iv(2, 3), false}, {iv(2, 3), iv(1, 2), false}, {iv(2, 3), iv(2, 3), true}, {iv(2, 3), iv(1, 3), true}, {iv(2, 3), iv(2, 4), true}, {iv(2, 3), iv(2, 2), false}, {iv(2, 3), iv(3, 3), false},
		{iv(minInt, maxInt), iv(minInt, maxInt), true}, {iv(minInt, maxInt), iv(minInt+1, maxInt), false}, {iv(minInt, maxInt), iv(minInt, maxInt-1), false}, {iv(0, 0), iv(minInt, maxInt), true},
		{iv(minInt, minInt), iv(maxInt, maxInt), false}, {iv(5, 6), iv(1, 2), false}, {iv(1, 2), iv(5, 6), false},
	} {
		if got := Leq(c.a, c.b); got != c.want {
			t.Errorf("P11.1: Leq(%v, %v) = %v, want %v", c.a, c.b, got, c.want)
		}
	}
}

func TestJoinAndMeet(t *testing.T) {
	for _, c := range []struct{ a, b, join, meet api.Ival }{
		{iv(1, 2), iv(7, 5), iv(1, 2), iv(1, 0)}, {iv(3, 1), iv(9, 0), iv(1, 0), iv(1, 0)}, {iv(1, 2), iv(5, 6), iv(1, 6), iv(1, 0)},
		{iv(1, 5), iv(3, 9), iv(1, 9), iv(3, 5)}, {iv(1, 2), iv(3, 4), iv(1, 4), iv(1, 0)}, {iv(1, 2), iv(2, 4), iv(1, 4), iv(2, 2)}, {iv(1, 9), iv(3, 4), iv(1, 9), iv(3, 4)},
		{iv(minInt, 0), iv(0, maxInt), iv(minInt, maxInt), iv(0, 0)}, {iv(minInt, -1), iv(0, maxInt), iv(minInt, maxInt), iv(1, 0)}, {iv(minInt, minInt), iv(maxInt, maxInt), iv(minInt, maxInt), iv(1, 0)},
		{iv(0, 10), iv(8, 2), iv(0, 10), iv(1, 0)}, {iv(minInt, maxInt), iv(5, 4), iv(minInt, maxInt), iv(1, 0)},
	} {
		for _, side := range [2][2]api.Ival{{c.a, c.b}, {c.b, c.a}} {
			if join, meet := Join(side[0], side[1]), Meet(side[0], side[1]); join != c.join || meet != c.meet {
				t.Errorf("P11.1: of %v and %v: Join %v, Meet %v, want %v, %v", side[0], side[1], join, meet, c.join, c.meet)
			}
		}
	}
}

func TestWiden(t *testing.T) {
	for _, c := range []struct {
		a, b       api.Ival
		thresholds []int64
		want       api.Ival
	}{
		{iv(0, 3), iv(0, 4), []int64{2, 10, 100}, iv(0, 10)}, {iv(0, 3), iv(-1, 3), []int64{2, 10}, iv(minInt, 3)}, {iv(0, 3), iv(1, 2), []int64{0}, iv(0, 3)},
		{iv(1, 0), iv(4, 4), []int64{0}, iv(4, 4)}, {iv(0, 3), iv(-5, 200), []int64{100, -5, -7, 300}, iv(-5, 300)},
		// no thresholds
		{iv(0, 3), iv(0, 3), nil, iv(0, 3)}, {iv(0, 3), iv(0, 4), nil, iv(0, maxInt)}, {iv(0, 3), iv(-1, 3), []int64{}, iv(minInt, 3)}, {iv(0, 3), iv(-1, 4), nil, iv(minInt, maxInt)},
		{iv(0, 3), iv(7, 9), nil, iv(0, maxInt)}, {iv(0, 3), iv(-9, -7), nil, iv(minInt, 3)},
		// in any order, more than once, just the end
		{iv(0, 3), iv(-1, 4), []int64{100, 4, 10, 4, -1, -10, -1, -100}, iv(-1, 4)}, {iv(0, 3), iv(-2, 5), []int64{4, 100, 10, 4, -1, -10, -1, -100}, iv(-10, 10)},
		{iv(0, 3), iv(-2, 5), []int64{10, 4, 100, 10, -100, -1, -10}, iv(-10, 10)}, {iv(0, 3), iv(-101, 101), []int64{4, 100, 10, -1, -10, -100}, iv(minInt, maxInt)},
		{iv(0, 3), iv(-2, 5), []int64{0, 3, 1, 2}, iv(minInt, maxInt)}, {iv(0, 3), iv(0, 5), []int64{-7, 4}, iv(0, maxInt)}, {iv(0, 3), iv(-5, 0), []int64{-4, 7}, iv(minInt, 3)},
		// b inside a, thresholds between them
		{iv(0, 9), iv(2, 7), []int64{1, 8}, iv(0, 9)}, {iv(0, 9), iv(2, 12), []int64{1, 10, 13}, iv(0, 13)}, {iv(0, 9), iv(-2, 8), []int64{-1, -3, 10}, iv(-3, 9)},
		// the ends of the numbers
		{iv(0, 3), iv(minInt, maxInt), []int64{minInt, maxInt}, iv(minInt, maxInt)}, {iv(0, 3), iv(minInt+1, maxInt-1), []int64{minInt + 1, maxInt - 1}, iv(minInt+1, maxInt-1)}, {iv(0, 3), iv(minInt, maxInt), []int64{minInt + 1, maxInt - 1}, iv(minInt, maxInt)},
		{iv(minInt, maxInt), iv(0, 0), []int64{0}, iv(minInt, maxInt)},
		// none
		{iv(4, 4), iv(9, 8), nil, iv(4, 4)}, {iv(8, 2), iv(9, 8), nil, iv(1, 0)}, {iv(8, 2), iv(-9, 8), []int64{7, 10, -10}, iv(-9, 8)}, {iv(-9, 8), iv(100, -100), []int64{7, 10, -10}, iv(-9, 8)}, {iv(100, -100), iv(maxInt, minInt), []int64{0, 1}, iv(1, 0)},
	} {
		if got := Widen(c.a, c.b, c.thresholds); got != c.want {
			t.Errorf("P11.2: Widen(%v, %v, %v) = %v, want %v", c.a, c.b, c.thresholds, got, c.want)
		}
	}
}

// row is a call with what it must answer.
type row struct {
	name  string
	a, b  api.Ival
	want  api.Ival
	exact bool
}

func hold(t *testing.T, promise string, rows []row) {
	t.Helper()
	for _, r := range rows {
		if got, exact := named(t, r.name).call(r.a, r.b); got != r.want || exact != r.exact {
			t.Errorf("%s: %s(%v, %v) = %v, %v, want %v, %v", promise, r.name, r.a, r.b, got, exact, r.want, r.exact)
		}
	}
}

func TestNegAddSub(t *testing.T) {
	hold(t, "P11.3", []row{
		{"Neg", iv(minInt, minInt), iv(0, 0), iv(minInt, minInt), false}, {"Neg", iv(minInt, 0), iv(0, 0), iv(minInt, maxInt), false}, {"Neg", iv(-3, 5), iv(0, 0), iv(-5, 3), true},
		{"Neg", iv(minInt, minInt+1), iv(0, 0), iv(minInt, maxInt), false}, {"Neg", iv(minInt+1, maxInt), iv(0, 0), iv(minInt+1, maxInt), true}, {"Neg", iv(maxInt, maxInt), iv(0, 0), iv(minInt+1, minInt+1), true}, {"Neg", iv(0, 0), iv(0, 0), iv(0, 0), true}, {"Neg", iv(minInt, maxInt), iv(0, 0), iv(minInt, maxInt), false},
		{"Add", iv(1, 2), iv(10, 20), iv(11, 22), true}, {"Add", iv(maxInt, maxInt), iv(1, 2), iv(minInt, minInt+1), false}, {"Add", iv(0, maxInt), iv(1, 1), iv(minInt, maxInt), false},
		{"Add", iv(0, maxInt), iv(0, 0), iv(0, maxInt), true}, {"Add", iv(0, maxInt-1), iv(1, 1), iv(1, maxInt), true}, {"Add", iv(minInt, minInt), iv(-2, -1), iv(maxInt-1, maxInt), false}, {"Add", iv(minInt, minInt), iv(-1, 0), iv(minInt, maxInt), false},
		{"Add", iv(minInt, maxInt), iv(minInt, maxInt), iv(minInt, maxInt), false}, {"Add", iv(maxInt, maxInt), iv(maxInt, maxInt), iv(-2, -2), false}, {"Add", iv(minInt, minInt), iv(minInt, minInt), iv(0, 0), false}, {"Add", iv(minInt, minInt), iv(maxInt, maxInt), iv(-1, -1), true},
		{"Add", iv(1, maxInt), iv(maxInt, maxInt), iv(minInt, -2), false}, {"Add", iv(0, maxInt), iv(maxInt, maxInt), iv(minInt, maxInt), false}, {"Add", iv(minInt, -1), iv(minInt, minInt), iv(0, maxInt), false}, {"Add", iv(minInt, 0), iv(minInt, minInt), iv(minInt, maxInt), false},
		{"Sub", iv(0, 1), iv(5, 7), iv(-7, -4), true}, {"Sub", iv(minInt, minInt+1), iv(2, 2), iv(maxInt-1, maxInt), false}, {"Sub", iv(minInt, minInt+1), iv(1, 1), iv(minInt, maxInt), false}, {"Sub", iv(minInt, minInt), iv(maxInt, maxInt), iv(1, 1), false}, {"Sub", iv(maxInt, maxInt), iv(minInt, minInt), iv(-1, -1), false},
		{"Sub", iv(0, 0), iv(minInt, minInt), iv(minInt, minInt), false}, {"Sub", iv(-1, -1), iv(minInt, minInt), iv(maxInt, maxInt), true}, {"Sub", iv(-1, -1), iv(minInt, maxInt), iv(minInt, maxInt), true}, {"Sub", iv(0, 0), iv(minInt, maxInt), iv(minInt, maxInt), false}, {"Sub", iv(minInt, maxInt), iv(minInt, maxInt), iv(minInt, maxInt), false},
	})
}

func TestMul(t *testing.T) {
	hold(t, "P11.4", []row{
		{"Mul", iv(-2, 3), iv(4, 5), iv(-10, 15), true}, {"Mul", iv(2, 2), iv(maxInt, maxInt), iv(-2, -2), false}, {"Mul", iv(0, 2), iv(maxInt, maxInt), iv(minInt, maxInt), false},
		{"Mul", iv(-2, 3), iv(-5, 4), iv(-15, 12), true}, {"Mul", iv(-3, -2), iv(-5, -4), iv(8, 15), true}, {"Mul", iv(-3, -2), iv(4, 5), iv(-15, -8), true}, {"Mul", iv(-7, 2), iv(-3, 1), iv(-7, 21), true},
		{"Mul", iv(0, 0), iv(minInt, maxInt), iv(0, 0), true}, {"Mul", iv(1, 1), iv(minInt, maxInt), iv(minInt, maxInt), true}, {"Mul", iv(-1, -1), iv(minInt, maxInt), iv(minInt, maxInt), false}, {"Mul", iv(-1, -1), iv(minInt+1, maxInt), iv(minInt+1, maxInt), true},
		{"Mul", iv(minInt, minInt), iv(-1, 1), iv(minInt, maxInt), false}, {"Mul", iv(minInt, minInt), iv(-1, -1), iv(minInt, minInt), false}, {"Mul", iv(minInt, minInt), iv(1, 1), iv(minInt, minInt), true}, {"Mul", iv(minInt, minInt), iv(0, 1), iv(minInt, 0), true}, {"Mul", iv(minInt, minInt), iv(minInt, minInt), iv(0, 0), false},
		{"Mul", iv(minInt, maxInt), iv(minInt, maxInt), iv(minInt, maxInt), false}, {"Mul", iv(1<<32, 1<<32), iv(1<<31, 1<<31), iv(minInt, minInt), false}, {"Mul", iv(-1<<32, -1<<32), iv(1<<31, 1<<31), iv(minInt, minInt), true}, {"Mul", iv(1<<32, 1<<32), iv(1<<32, 1<<32), iv(0, 0), false},
		// Though all results wrap, to few numbers, and one side has one number.
		{"Mul", iv(1<<32, 1<<32), iv(1<<32, 1<<32+1), iv(minInt, maxInt), false}, {"Mul", iv(1<<32, 1<<32+1), iv(1<<32, 1<<32), iv(minInt, maxInt), false}, {"Mul", iv(3037000500, 3037000500), iv(3037000499, 3037000500), iv(minInt, maxInt), false}, {"Mul", iv(3037000499, 3037000499), iv(3037000499, 3037000500), iv(9223372030926249001, 9223372033963249500), true},
	})
}

func TestDiv(t *testing.T) {
	hold(t, "P11.3", []row{
		{"Div", iv(-7, 7), iv(2, 3), iv(-3, 3), true}, {"Div", iv(10, 20), iv(-2, 5), iv(-20, 20), true}, {"Div", iv(1, 9), iv(0, 0), iv(1, 0), true}, {"Div", iv(minInt, minInt), iv(-1, 1), iv(minInt, minInt), false}, {"Div", iv(minInt, minInt+1), iv(-1, -1), iv(minInt, maxInt), false},
		{"Div", iv(10, 20), iv(0, 5), iv(2, 20), true}, {"Div", iv(10, 20), iv(-5, 0), iv(-20, -2), true}, {"Div", iv(10, 20), iv(3, 4), iv(2, 6), true}, {"Div", iv(-20, -10), iv(3, 4), iv(-6, -2), true}, {"Div", iv(-20, -10), iv(-4, -3), iv(2, 6), true}, {"Div", iv(10, 20), iv(-4, -3), iv(-6, -2), true},
		{"Div", iv(1, 2), iv(5, 9), iv(0, 0), true}, {"Div", iv(-2, -1), iv(5, 9), iv(0, 0), true}, {"Div", iv(0, 0), iv(minInt, maxInt), iv(0, 0), true}, {"Div", iv(-3, 8), iv(-2, -2), iv(-4, 1), true},
		{"Div", iv(minInt, minInt), iv(-1, -1), iv(minInt, minInt), false}, {"Div", iv(minInt, minInt), iv(-2, -1), iv(minInt, 1<<62), false}, {"Div", iv(minInt, minInt), iv(-1, 0), iv(minInt, minInt), false}, {"Div", iv(minInt, minInt), iv(-2, -2), iv(1<<62, 1<<62), true}, {"Div", iv(minInt, minInt), iv(1, 2), iv(minInt, -1<<62), true}, {"Div", iv(minInt, minInt), iv(-1, maxInt), iv(minInt, -1), false},
		{"Div", iv(minInt+1, minInt+1), iv(-1, -1), iv(maxInt, maxInt), true}, {"Div", iv(minInt+1, maxInt), iv(minInt, maxInt), iv(minInt+1, maxInt), true}, {"Div", iv(minInt, maxInt), iv(minInt, maxInt), iv(minInt, maxInt), false}, {"Div", iv(minInt, maxInt), iv(minInt, -2), iv(-1<<62+1, 1<<62), true}, {"Div", iv(minInt, maxInt), iv(1, maxInt), iv(minInt, maxInt), true},
		{"Div", iv(minInt, minInt), iv(minInt, minInt), iv(1, 1), true}, {"Div", iv(maxInt, maxInt), iv(minInt, minInt), iv(0, 0), true}, {"Div", iv(minInt, minInt+2), iv(minInt, -1), iv(minInt, maxInt), false}, {"Div", iv(minInt, minInt), iv(minInt, -1), iv(minInt, 1<<62), false},
		{"Div", iv(1, 9), iv(1, 0), iv(1, 0), true}, {"Div", iv(9, 1), iv(0, 0), iv(1, 0), true},
	})
}

func TestRem(t *testing.T) {
	hold(t, "P11.5", []row{
		{"Rem", iv(-7, 7), iv(3, 3), iv(-2, 2), true}, {"Rem", iv(0, 2), iv(5, 9), iv(0, 2), true}, {"Rem", iv(7, 7), iv(-3, -3), iv(1, 1), true}, {"Rem", iv(5, 9), iv(0, 4), iv(0, 3), true}, {"Rem", iv(0, 100), iv(0, 0), iv(1, 0), true},
		// one number each
		{"Rem", iv(-7, -7), iv(3, 3), iv(-1, -1), true}, {"Rem", iv(minInt, minInt), iv(-1, -1), iv(0, 0), true}, {"Rem", iv(minInt, minInt), iv(minInt, minInt), iv(0, 0), true}, {"Rem", iv(minInt, minInt), iv(maxInt, maxInt), iv(-1, -1), true}, {"Rem", iv(maxInt, maxInt), iv(minInt, minInt), iv(maxInt, maxInt), true}, {"Rem", iv(5, 5), iv(0, 0), iv(1, 0), true},
		// one number and more
		{"Rem", iv(7, 7), iv(3, 4), iv(0, 3), true}, {"Rem", iv(7, 7), iv(0, 1), iv(0, 0), true}, {"Rem", iv(-7, -7), iv(-1, 0), iv(0, 0), true}, {"Rem", iv(7, 8), iv(3, 3), iv(0, 2), true}, {"Rem", iv(7, 7), iv(0, 3), iv(0, 2), true},
		// nearer to 0 than every divisor
		{"Rem", iv(-4, 4), iv(5, 5), iv(-4, 4), true}, {"Rem", iv(-4, 4), iv(-9, -5), iv(-4, 4), true}, {"Rem", iv(3, 4), iv(5, 9), iv(3, 4), true}, {"Rem", iv(-4, -3), iv(5, 9), iv(-4, -3), true}, {"Rem", iv(0, 0), iv(-1, 1), iv(0, 0), true}, {"Rem", iv(0, 0), iv(-9, 9), iv(0, 0), true}, {"Rem", iv(-5, -1), iv(minInt, -9), iv(-5, -1), true},
		{"Rem", iv(minInt+1, maxInt), iv(minInt, minInt), iv(minInt+1, maxInt), true}, {"Rem", iv(3, 3), iv(5, 9), iv(3, 3), true}, {"Rem", iv(3, 3), iv(-9, 9), iv(0, 3), true},
		// just not nearer: as far as the nearest, on either side
		{"Rem", iv(3, 5), iv(5, 9), iv(0, 5), true}, {"Rem", iv(3, 9), iv(5, 9), iv(0, 8), true}, {"Rem", iv(-5, -3), iv(-9, -5), iv(-5, 0), true}, {"Rem", iv(-5, 2), iv(5, 9), iv(-5, 2), true}, {"Rem", iv(-2, 5), iv(5, 5), iv(-2, 4), true}, {"Rem", iv(3, 4), iv(-9, 4), iv(0, 4), true}, {"Rem", iv(3, 4), iv(-4, 9), iv(0, 4), true},
		// on one side of 0 and on both
		{"Rem", iv(0, 100), iv(-7, 3), iv(0, 6), true}, {"Rem", iv(-100, 0), iv(-7, 3), iv(-6, 0), true}, {"Rem", iv(-100, -50), iv(-3, 7), iv(-6, 0), true}, {"Rem", iv(50, 100), iv(-3, 7), iv(0, 6), true}, {"Rem", iv(-100, 3), iv(-7, 2), iv(-6, 3), true}, {"Rem", iv(-3, 100), iv(-2, 7), iv(-3, 6), true},
		// divisors at the ends of the numbers
		{"Rem", iv(minInt, maxInt), iv(minInt, maxInt), iv(minInt+1, maxInt), true}, {"Rem", iv(minInt, minInt+1), iv(minInt, minInt), iv(minInt+1, 0), true}, {"Rem", iv(minInt, 5), iv(minInt, minInt), iv(minInt+1, 5), true}, {"Rem", iv(0, maxInt), iv(1, maxInt), iv(0, maxInt-1), true}, {"Rem", iv(minInt, maxInt), iv(maxInt, maxInt), iv(minInt+2, maxInt-1), true}, {"Rem", iv(minInt, maxInt), iv(-1, 1), iv(0, 0), true}, {"Rem", iv(minInt, 0), iv(minInt, 0), iv(minInt+1, 0), true},
	})
}

// P11.1 to P11.5: an interval without numbers means the same in whatever form it is handed in, on either side of every call, and is answered in one form.
func TestNoneOnEitherSide(t *testing.T) {
	for _, n := range nones() {
		for _, s := range somes() {
			if Leq(s, n) || !Leq(n, s) {
				t.Errorf("P11.1: Leq of %v, which is none, and %v", n, s)
			}
			if Join(n, s) != s || Join(s, n) != s || Meet(n, s) != iv(1, 0) || Meet(s, n) != iv(1, 0) {
				t.Errorf("P11.1: Join and Meet of %v, which is none, and %v", n, s)
			}
			if Widen(n, s, []int64{minInt, -1, 0, 1, maxInt}) != s || Widen(s, n, []int64{minInt, -1, 0, 1, maxInt}) != s {
				t.Errorf("P11.2: Widen of %v, which is none, and %v", n, s)
			}
			for _, o := range operations() {
				if got, exact := o.call(n, s); got != iv(1, 0) || !exact {
					t.Errorf("P11.3 to P11.5: %s(%v, %v) = %v, %v, want none and true", o.name, n, s, got, exact)
				}
				if got, exact := o.call(s, n); o.name != "Neg" && (got != iv(1, 0) || !exact) {
					t.Errorf("P11.3 to P11.5: %s(%v, %v) = %v, %v, want none and true", o.name, s, n, got, exact)
				}
			}
		}
		for _, other := range nones() {
			if !Leq(n, other) || Join(n, other) != iv(1, 0) || Meet(n, other) != iv(1, 0) || Widen(n, other, []int64{0, 1}) != iv(1, 0) {
				t.Errorf("P11.1, P11.2: of %v and %v, both none", n, other)
			}
			for _, o := range operations() {
				if got, exact := o.call(n, other); got != iv(1, 0) || !exact {
					t.Errorf("P11.3 to P11.5: %s(%v, %v) = %v, %v, want none and true", o.name, n, other, got, exact)
				}
			}
		}
	}
}
