package num

import (
	"testing"

	"winnow/api"
)

const (
	minInt = -1 << 63
	maxInt = 1<<63 - 1
	half   = uint64(1) << 63
	last   = uint64(1<<64 - 1)
)

func iv(lo, hi int64) api.Ival { return api.Ival{Lo: lo, Hi: hi} }

func cl(m, r uint64) api.Cong { return api.Cong{M: m, R: r} }

// nu is a Num as it is written, in its normal form or not.
func nu(lo, hi int64, m, r uint64) api.Num { return api.Num{I: iv(lo, hi), C: cl(m, r)} }

// one is v alone, written without a call of the package.
func one(v int64) api.Num { return nu(v, v, 0, uint64(v)) }

// no is no number, written without a call of the package.
func no() api.Num { return api.Num{Bot: true} }

func top() api.Num { return nu(minInt, maxInt, 1, 0) }

type pair struct{ got, want api.Num }

func hold(t *testing.T, name string, list []pair) {
	t.Helper()
	for i, p := range list {
		if p.got != p.want {
			t.Errorf("%s: row %d: %v, want %v", name, i, p.got, p.want)
		}
	}
}

func TestMake(t *testing.T) {
	make1 := func(lo, hi int64, m, r uint64) api.Num { return Make(iv(lo, hi), cl(m, r)) }
	hold(t, "P13.1: Make", []pair{
		// the chapter's
		{make1(1, 10, 4, 3), nu(3, 7, 4, 3)}, {make1(4, 6, 4, 3), no()}, {make1(4, 7, 4, 3), one(7)}, {make1(5, 1, 1, 0), no()}, {make1(minInt, maxInt, 0, 5), one(5)}, {make1(0, 3, 0, 5), no()},
		// one number, by its interval, by its class, by both, by neither
		{make1(7, 7, 1, 0), one(7)}, {make1(7, 7, 4, 3), one(7)}, {make1(7, 7, 4, 2), no()}, {make1(7, 7, 0, 7), one(7)}, {make1(7, 7, 0, 8), no()}, {make1(-9, 9, 0, last), one(-1)}, {make1(0, 9, 0, last), no()}, {make1(1, 5, 7, 3), one(3)}, {make1(-5, -1, 7, 3), one(-4)}, {make1(8, 3, 0, 5), no()},
		// R at or above M
		{make1(0, 9, 3, 7), nu(1, 7, 3, 1)}, {make1(0, 9, 3, 3), nu(0, 9, 3, 0)}, {make1(0, 9, 1, 5), nu(0, 9, 1, 0)}, {make1(-9, 9, 5, last), nu(-5, 5, 5, 0)}, {make1(0, 1, half, half+1), one(1)}, {make1(minInt, maxInt, half, last), nu(-1, maxInt, half, half-1)},
		// below 0
		{make1(-10, -1, 4, 3), nu(-9, -1, 4, 3)}, {make1(-10, 10, 4, 1), nu(-7, 9, 4, 1)}, {make1(-2, 2, 5, 0), one(0)}, {make1(-3, -1, 5, 0), no()},
		// great Ms
		{make1(minInt, maxInt, half, 0), nu(minInt, 0, half, 0)}, {make1(minInt, maxInt, half, 1), nu(minInt+1, 1, half, 1)}, {make1(minInt+1, maxInt, half, 0), one(0)}, {make1(minInt+1, -1, half, 0), no()}, {make1(minInt, maxInt, half+1, 0), one(0)}, {make1(minInt, maxInt, half+1, 1), nu(minInt, 1, half+1, 1)}, {make1(minInt, maxInt, half-1, 0), nu(-maxInt, maxInt, half-1, 0)},
		{make1(minInt, maxInt, last, 0), one(0)}, {make1(minInt, maxInt, last, half-1), nu(minInt, maxInt, last, half-1)}, {make1(minInt, maxInt-1, last, half-1), one(minInt)}, {make1(minInt+1, maxInt, last, half-1), one(maxInt)}, {make1(minInt+1, maxInt-1, last, half-1), no()}, {make1(minInt, maxInt, last, half), one(minInt + 1)}, {make1(minInt, maxInt, last, last-1), one(-1)}, {make1(minInt, maxInt, last, last), one(0)}, {make1(minInt, maxInt, last-1, half-2), nu(minInt, maxInt-1, last-1, half-2)}, {make1(minInt, maxInt, last-1, half-1), nu(minInt+1, maxInt, last-1, half-1)}, {make1(minInt, maxInt, last-1, half), one(minInt + 2)},
		// the ends
		{make1(minInt, maxInt, 1, 0), top()}, {make1(minInt, minInt, 1, 0), one(minInt)}, {make1(maxInt, maxInt, 1, 0), one(maxInt)}, {make1(minInt, minInt+1, 2, 1), one(minInt + 1)}, {make1(maxInt-1, maxInt, 2, 0), one(maxInt - 1)}, {make1(maxInt-1, maxInt, 5, 0), no()}, {make1(minInt, minInt+1, 3, 0), no()}, {make1(minInt, minInt+2, 1, 0), nu(minInt, minInt+2, 1, 0)}, {make1(maxInt, minInt, 1, 0), no()}, {make1(minInt, maxInt, 0, half), one(minInt)},
	})
}

func TestForms(t *testing.T) {
	hold(t, "P13.1: Norm", []pair{
		{Norm(api.Num{Bot: true, I: iv(1, 2), C: cl(1, 0)}), no()}, {Norm(api.Num{Bot: true, I: iv(3, 3), C: cl(0, 3)}), no()}, {Norm(no()), no()}, {Norm(nu(0, 9, 3, 7)), nu(1, 7, 3, 1)}, {Norm(nu(5, 4, 1, 0)), no()}, {Norm(nu(4, 4, 1, 0)), one(4)}, {Norm(nu(0, 9, 0, 4)), one(4)}, {Norm(nu(0, 9, 0, 14)), no()}, {Norm(top()), top()}, {Norm(one(3)), one(3)},
		// the zero Num is 0 alone
		{Norm(api.Num{}), one(0)},
	})
	hold(t, "P13.1: Const, Range, Top, Bot", []pair{
		{Const(0), one(0)}, {Const(5), one(5)}, {Const(-1), nu(-1, -1, 0, last)}, {Const(minInt), nu(minInt, minInt, 0, half)}, {Const(maxInt), nu(maxInt, maxInt, 0, half-1)},
		{Range(2, 1), no()}, {Range(2, 2), one(2)}, {Range(-2, 5), nu(-2, 5, 1, 0)}, {Range(minInt, maxInt), top()}, {Range(maxInt, minInt), no()}, {Range(minInt, minInt), one(minInt)}, {Range(maxInt-1, maxInt), nu(maxInt-1, maxInt, 1, 0)}, {Range(1, 0), no()}, {Range(0, 0), one(0)},
		{Top(), top()}, {Bot(), no()},
	})
}

func TestHas(t *testing.T) {
	for _, c := range []struct {
		a    api.Num
		v    int64
		want bool
	}{
		{nu(0, 9, 3, 7), 4, true}, {nu(0, 9, 3, 7), 3, false}, {nu(0, 9, 3, 7), 10, false}, {nu(0, 9, 3, 7), -2, false}, {nu(0, 9, 3, 7), 1, true}, {nu(0, 9, 3, 7), 7, true},
		{no(), 0, false}, {api.Num{Bot: true, I: iv(0, 9), C: cl(1, 0)}, 4, false}, {nu(9, 0, 1, 0), 4, false}, {nu(0, 9, 0, 4), 4, true}, {nu(0, 9, 0, 4), 5, false}, {nu(0, 9, 0, 14), 14, false}, {nu(4, 4, 1, 0), 4, true},
		{api.Num{}, 0, true}, {api.Num{}, 1, false}, {top(), minInt, true}, {top(), maxInt, true}, {nu(minInt, maxInt, last, half-1), minInt, true}, {nu(minInt, maxInt, last, half-1), maxInt, true}, {nu(minInt, maxInt, last, half-1), -1, false}, {nu(minInt, maxInt, half, 5), minInt + 5, true}, {one(minInt), minInt, true}, {one(-1), -1, true}, {one(-1), maxInt, false},
	} {
		if got := Has(c.a, c.v); got != c.want {
			t.Errorf("P13.2: Has(%v, %d) = %v", c.a, c.v, got)
		}
	}
}

func TestLeq(t *testing.T) {
	for _, c := range []struct {
		a, b api.Num
		want bool
	}{
		{no(), no(), true}, {no(), one(3), true}, {one(3), no(), false}, {no(), top(), true}, {top(), no(), false}, {top(), top(), true}, {one(3), top(), true}, {top(), one(3), false},
		{nu(0, 9, 6, 1), nu(0, 7, 3, 1), true}, {nu(0, 9, 3, 1), nu(0, 9, 6, 1), false}, {nu(0, 9, 3, 0), nu(0, 8, 3, 0), false}, {nu(0, 9, 3, 0), nu(1, 9, 3, 0), false}, {nu(0, 9, 3, 0), nu(0, 9, 3, 1), false}, {nu(0, 9, 3, 0), nu(0, 9, 9, 0), false},
		// one form, otherwise written
		{nu(0, 9, 3, 7), nu(1, 7, 3, 1), true}, {nu(1, 7, 3, 1), nu(0, 9, 3, 7), true}, {nu(0, 9, 7, 3), one(3), true}, {nu(0, 9, 0, 3), nu(3, 3, 1, 0), true}, {nu(4, 4, 1, 0), nu(0, 9, 0, 4), true}, {nu(0, 11, 3, 0), nu(0, 9, 3, 0), true}, {nu(5, 6, 4, 0), no(), true}, {no(), nu(5, 6, 4, 0), true}, {nu(9, 0, 1, 0), nu(5, 6, 4, 0), true}, {one(3), nu(9, 0, 1, 0), false}, {api.Num{Bot: true, I: iv(0, 9), C: cl(1, 0)}, no(), true}, {one(3), api.Num{Bot: true, I: iv(0, 9), C: cl(1, 0)}, false}, {nu(5, 9, 0, 3), no(), true},
		// a class isn't below, but its numbers are
		{nu(0, 9, 7, 3), nu(0, 9, 2, 1), true}, {nu(0, 9, 0, 3), nu(0, 9, 2, 1), true}, {nu(3, 4, 2, 1), nu(0, 9, 5, 3), true},
		{nu(minInt, maxInt, last, half-1), top(), true}, {nu(minInt, maxInt, last, half-1), nu(minInt, maxInt, half, 0), false}, {one(minInt), nu(minInt, maxInt, last, half-1), true}, {nu(minInt, maxInt, half, 0), nu(minInt, 0, 1<<62, 0), true}, {nu(minInt, maxInt, 1<<62, 0), nu(minInt, maxInt, half, 0), false}, {nu(minInt, maxInt, last, 7), nu(7, 7, half, 7), true},
	} {
		if got := Leq(c.a, c.b); got != c.want {
			t.Errorf("P13.2: Leq(%v, %v) = %v", c.a, c.b, got)
		}
	}
}

func TestMeet(t *testing.T) {
	hold(t, "P13.2: Meet", []pair{
		{Meet(nu(0, 20, 4, 1), nu(3, 30, 6, 3)), one(9)}, {Meet(nu(0, 5, 2, 0), nu(0, 5, 2, 1)), no()}, {Meet(nu(0, 30, 4, 1), nu(3, 30, 6, 3)), nu(9, 21, 12, 9)}, {Meet(nu(0, 8, 4, 1), nu(3, 8, 6, 3)), no()},
		{Meet(top(), top()), top()}, {Meet(top(), nu(0, 9, 3, 7)), nu(1, 7, 3, 1)}, {Meet(nu(0, 9, 3, 7), top()), nu(1, 7, 3, 1)}, {Meet(no(), top()), no()}, {Meet(top(), no()), no()}, {Meet(no(), no()), no()}, {Meet(one(3), one(3)), one(3)}, {Meet(one(3), one(4)), no()}, {Meet(one(0), no()), no()}, {Meet(no(), one(0)), no()}, {Meet(nu(0, 5, 1, 0), nu(6, 9, 1, 0)), no()}, {Meet(nu(0, 5, 1, 0), nu(5, 9, 1, 0)), one(5)}, {Meet(nu(0, 9, 2, 0), one(4)), one(4)}, {Meet(one(5), nu(0, 9, 2, 0)), no()},
		// the numbers in common are beyond 64 bits apart
		{Meet(nu(minInt, maxInt, half, 5), nu(minInt, maxInt, 3, 2)), one(5)}, {Meet(nu(minInt, maxInt, half, 5), nu(6, maxInt, 3, 2)), no()}, {Meet(nu(minInt, maxInt, last, 0), nu(minInt, maxInt, half, 1)), no()}, {Meet(nu(minInt, maxInt, last, half-1), nu(minInt, maxInt, half, 0)), one(minInt)}, {Meet(nu(minInt, maxInt, last, half-1), nu(minInt, maxInt, half, half-1)), one(maxInt)}, {Meet(nu(minInt, maxInt, last, half-1), nu(minInt, maxInt, 3, 1)), nu(minInt, maxInt, last, half-1)}, {Meet(nu(minInt, maxInt, 1<<62, 0), nu(minInt, maxInt, half, 0)), nu(minInt, 0, half, 0)},
	})
}

func TestJoin(t *testing.T) {
	hold(t, "P13.2: Join", []pair{
		{Join(one(3), one(9)), nu(3, 9, 6, 3)}, {Join(one(3), no()), one(3)}, {Join(no(), one(3)), one(3)}, {Join(nu(0, 4, 2, 0), one(7)), nu(0, 7, 1, 0)}, {Join(one(7), nu(0, 4, 2, 0)), nu(0, 7, 1, 0)}, {Join(no(), no()), no()}, {Join(no(), nu(0, 9, 3, 7)), nu(1, 7, 3, 1)}, {Join(nu(0, 9, 3, 7), no()), nu(1, 7, 3, 1)}, {Join(nu(0, 9, 3, 7), nu(5, 6, 4, 0)), nu(1, 7, 3, 1)}, {Join(nu(9, 0, 1, 0), nu(0, 9, 3, 7)), nu(1, 7, 3, 1)},
		{Join(one(3), one(3)), one(3)}, {Join(top(), one(3)), top()}, {Join(one(-4), one(4)), nu(-4, 4, 8, 4)}, {Join(nu(0, 8, 4, 0), nu(6, 12, 6, 0)), nu(0, 12, 2, 0)}, {Join(nu(0, 9, 7, 3), nu(8, 12, 5, 4)), nu(3, 9, 6, 3)}, {Join(nu(0, 9, 0, 3), nu(4, 4, 1, 0)), nu(3, 4, 1, 0)},
		{Join(one(minInt), one(maxInt)), nu(minInt, maxInt, last, half-1)}, {Join(one(maxInt), one(minInt)), nu(minInt, maxInt, last, half-1)}, {Join(one(minInt), one(0)), nu(minInt, 0, half, 0)}, {Join(one(minInt), one(minInt+1)), nu(minInt, minInt+1, 1, 0)}, {Join(one(-1), one(maxInt)), nu(-1, maxInt, half, half-1)},
	})
}

func TestWiden(t *testing.T) {
	list := []int64{10, -5, 10, 100, -7, -5}
	hold(t, "P13.3", []pair{
		{Widen(one(0), nu(0, 2, 2, 0), []int64{10}), nu(0, 10, 1, 0)}, {Widen(nu(0, 2, 2, 0), nu(0, 4, 2, 0), []int64{9}), nu(0, 8, 2, 0)},
		// none on a side
		{Widen(no(), nu(0, 9, 3, 7), nil), nu(1, 7, 3, 1)}, {Widen(nu(0, 9, 3, 7), no(), []int64{5}), nu(1, 7, 3, 1)}, {Widen(no(), no(), []int64{5}), no()}, {Widen(nu(9, 0, 1, 0), one(4), list), one(4)}, {Widen(one(4), nu(5, 6, 4, 0), list), one(4)},
		// without thresholds, and with unsorted ones
		{Widen(nu(0, 3, 1, 0), nu(0, 4, 1, 0), nil), nu(0, maxInt, 1, 0)}, {Widen(nu(0, 3, 1, 0), nu(-1, 3, 1, 0), nil), nu(minInt, 3, 1, 0)}, {Widen(nu(0, 3, 1, 0), nu(-1, 4, 1, 0), []int64{}), top()}, {Widen(nu(0, 3, 1, 0), nu(1, 2, 1, 0), nil), nu(0, 3, 1, 0)}, {Widen(nu(0, 3, 1, 0), nu(-1, 4, 1, 0), list), nu(-5, 10, 1, 0)}, {Widen(nu(0, 3, 1, 0), nu(-6, 11, 1, 0), list), nu(-7, 100, 1, 0)}, {Widen(nu(0, 3, 1, 0), nu(-8, 101, 1, 0), list), top()}, {Widen(nu(0, 3, 1, 0), nu(-5, 10, 1, 0), list), nu(-5, 10, 1, 0)},
		// the class of b is below that of a, or it isn't
		{Widen(nu(0, 4, 4, 0), nu(0, 8, 8, 0), nil), nu(0, maxInt-3, 4, 0)}, {Widen(nu(0, 4, 4, 0), one(8), list), nu(0, 8, 4, 0)}, {Widen(nu(0, 4, 4, 0), one(7), list), nu(0, 10, 1, 0)}, {Widen(nu(0, 8, 8, 0), nu(0, 8, 4, 0), list), nu(0, 8, 1, 0)}, {Widen(nu(-4, 4, 4, 0), one(-8), nil), nu(minInt, 4, 4, 0)}, {Widen(nu(-3, 3, 3, 0), one(-6), nil), nu(minInt+2, 3, 3, 0)}, {Widen(one(3), one(3), list), one(3)}, {Widen(one(3), one(4), list), nu(3, 10, 1, 0)}, {Widen(one(3), one(2), list), nu(-5, 3, 1, 0)}, {Widen(nu(0, 8, 4, 0), one(4), nil), nu(0, 8, 4, 0)},
		// by the normal forms alone: b's class, as it is written, isn't below a's, or its ends are beyond
		{Widen(nu(0, 4, 4, 0), nu(3, 5, 3, 1), nil), nu(0, 4, 4, 0)}, {Widen(nu(0, 5, 4, 0), nu(0, 5, 4, 4), nil), nu(0, 4, 4, 0)}, {Widen(nu(0, 4, 4, 0), nu(-3, 7, 4, 8), nil), nu(0, 4, 4, 0)}, {Widen(nu(0, 9, 0, 4), nu(4, 4, 1, 0), nil), one(4)}, {Widen(nu(0, 9, 7, 3), one(10), nil), nu(3, maxInt, 1, 0)},
		{Widen(nu(minInt, maxInt, last, half-1), one(minInt), nil), nu(minInt, maxInt, last, half-1)}, {Widen(one(minInt), one(maxInt), list), top()}, {Widen(nu(-1, 0, 1, 0), one(maxInt), list), nu(-1, maxInt, 1, 0)}, {Widen(nu(minInt, 0, half, 0), one(0), nil), nu(minInt, 0, half, 0)}, {Widen(one(0), one(minInt), []int64{minInt}), nu(minInt, 0, 1, 0)},
	})
}

func TestNonZero(t *testing.T) {
	hold(t, "P13.4", []pair{
		{NonZero(nu(0, 8, 4, 0)), nu(4, 8, 4, 0)}, {NonZero(one(0)), no()}, {NonZero(nu(-2, 2, 1, 0)), nu(-2, 2, 1, 0)},
		{NonZero(nu(-3, 0, 1, 0)), nu(-3, -1, 1, 0)}, {NonZero(nu(-8, 0, 4, 0)), nu(-8, -4, 4, 0)}, {NonZero(nu(0, 4, 4, 0)), one(4)}, {NonZero(nu(-4, 0, 4, 0)), one(-4)}, {NonZero(nu(0, 1, 1, 0)), one(1)}, {NonZero(nu(-1, 0, 1, 0)), one(-1)}, {NonZero(one(7)), one(7)}, {NonZero(one(-7)), one(-7)}, {NonZero(no()), no()}, {NonZero(top()), top()}, {NonZero(nu(1, 9, 1, 0)), nu(1, 9, 1, 0)}, {NonZero(nu(-9, -1, 1, 0)), nu(-9, -1, 1, 0)},
		// 0 comes to an end by the normal form, or leaves it so
		{NonZero(nu(-3, 9, 4, 0)), nu(4, 8, 4, 0)}, {NonZero(nu(-9, 3, 4, 0)), nu(-8, -4, 4, 0)}, {NonZero(nu(0, 9, 4, 1)), nu(1, 9, 4, 1)}, {NonZero(nu(-9, 0, 4, 1)), nu(-7, -3, 4, 1)}, {NonZero(nu(-3, 3, 4, 4)), no()}, {NonZero(nu(-3, 3, 0, 0)), no()}, {NonZero(nu(0, 0, 1, 0)), no()}, {NonZero(api.Num{}), no()}, {NonZero(api.Num{Bot: true, I: iv(0, 9), C: cl(1, 0)}), no()}, {NonZero(nu(5, 0, 1, 0)), no()}, {NonZero(nu(0, -5, 1, 0)), no()},
		{NonZero(nu(0, maxInt, 1, 0)), nu(1, maxInt, 1, 0)}, {NonZero(nu(minInt, 0, 1, 0)), nu(minInt, -1, 1, 0)}, {NonZero(nu(minInt, maxInt, half, 0)), one(minInt)}, {NonZero(nu(minInt, maxInt, last, 0)), no()}, {NonZero(nu(0, maxInt, half-1, 0)), one(maxInt)},
	})
}
