package cong

import (
	"math"
	"testing"

	"winnow/api"
)

const (
	minInt = math.MinInt64
	maxInt = math.MaxInt64
	half   = 1 << 63   // 2^63
	last   = 1<<64 - 1 // 2^64 - 1
)

func cl(m, r uint64) api.Cong { return api.Cong{M: m, R: r} }

// forms are a class as it must be written, and otherwise: R a multiple of M further, as far as 64 bits go.
func forms(c api.Cong) []api.Cong {
	out := []api.Cong{c}
	if c.M == 0 {
		return out
	}
	if room := last - c.R; room >= c.M {
		out = append(out, cl(c.M, c.R+c.M), cl(c.M, c.R+room/c.M*c.M))
	}
	return out
}

// eachForm hands over all forms of two classes, each with each.
func eachForm(c, d api.Cong, each func(c, d api.Cong)) {
	for _, x := range forms(c) {
		for _, y := range forms(d) {
			each(x, y)
		}
	}
}

func TestNorm(t *testing.T) {
	for _, x := range []struct{ c, want api.Cong }{
		{cl(3, 7), cl(3, 1)}, {cl(0, 7), cl(0, 7)}, {cl(3, 1), cl(3, 1)}, {cl(3, 3), cl(3, 0)}, {cl(3, 2), cl(3, 2)}, {cl(3, last), cl(3, 0)}, {cl(1, 0), cl(1, 0)}, {cl(1, 1), cl(1, 0)}, {cl(1, last), cl(1, 0)},
		{cl(0, 0), cl(0, 0)}, {cl(0, last), cl(0, last)}, {cl(0, half), cl(0, half)}, {cl(half, half), cl(half, 0)}, {cl(half, half-1), cl(half, half-1)}, {cl(half, last), cl(half, half-1)},
		{cl(last, last), cl(last, 0)}, {cl(last, last-1), cl(last, last-1)}, {cl(last-1, last), cl(last-1, 1)}, {cl(half+1, last), cl(half+1, half-2)},
	} {
		if got := Norm(x.c); got != x.want {
			t.Errorf("P12.1: Norm(%v) = %v, want %v", x.c, got, x.want)
		}
	}
}

func TestConst(t *testing.T) {
	for v, want := range map[int64]api.Cong{0: cl(0, 0), 7: cl(0, 7), -1: cl(0, last), minInt: cl(0, half), maxInt: cl(0, half-1), -7: cl(0, last-6)} {
		if got := Const(v); got != want {
			t.Errorf("P12.1: Const(%d) = %v, want %v", v, got, want)
		}
	}
}

func TestHas(t *testing.T) {
	for _, x := range []struct {
		c    api.Cong
		v    int64
		want bool
	}{
		{cl(3, 2), -7, true}, {cl(3, 2), 7, false}, {cl(3, 2), 8, true}, {cl(3, 2), 2, true}, {cl(3, 2), -1, true}, {cl(3, 2), -2, false}, {cl(3, 2), 0, false}, {cl(3, 0), 0, true},
		{Const(5), 5, true}, {Const(5), -5, false}, {Const(5), 4, false}, {Const(-1), -1, true}, {Const(-1), maxInt, false}, {Const(minInt), minInt, true}, {Const(minInt), maxInt, false}, {Const(0), 0, true}, {Const(0), minInt, false},
		{cl(1, 0), minInt, true}, {cl(1, 0), maxInt, true}, {cl(1, 0), 0, true}, {cl(2, 0), minInt, true}, {cl(2, 1), minInt, false}, {cl(2, 1), maxInt, true},
		{cl(half, 0), minInt, true}, {cl(half, 0), 0, true}, {cl(half, 0), maxInt, false}, {cl(half, half-1), maxInt, true}, {cl(half, half-1), -1, true}, {cl(half, 1), minInt + 1, true}, {cl(half, 1), minInt, false},
		{cl(last, half), minInt, false}, {cl(last, half-1), minInt, true}, {cl(last, half-1), maxInt, true}, {cl(last, 0), 0, true}, {cl(last, 0), -1, false}, {cl(last, last-1), -1, true}, {cl(last-1, last-2), -1, true}, {cl(half+1, half), -1, true}, {cl(half+1, 1), minInt, true},
	} {
		for _, c := range forms(x.c) {
			if got := Has(c, x.v); got != x.want {
				t.Errorf("P12.1: Has(%v, %d) = %v, want %v", c, x.v, got, x.want)
			}
		}
	}
}

func TestLeq(t *testing.T) {
	for _, x := range []struct {
		c, d api.Cong
		want bool
	}{
		{cl(6, 1), cl(3, 1), true}, {Const(7), cl(3, 1), true}, {cl(3, 1), cl(6, 1), false}, {cl(6, 2), cl(3, 1), false}, {cl(6, 4), cl(3, 1), true}, {cl(6, 1), cl(4, 1), false}, {cl(6, 1), cl(6, 1), true}, {cl(6, 1), cl(6, 2), false},
		{Const(-7), cl(3, 2), true}, {Const(-7), cl(3, 1), false}, {Const(5), Const(5), true}, {Const(5), Const(-5), false}, {cl(3, 1), Const(1), false}, {cl(1, 0), Const(0), false}, {cl(last, 0), Const(0), false}, {cl(half, 0), Const(0), false},
		{cl(3, 1), cl(1, 0), true}, {Const(minInt), cl(1, 0), true}, {cl(1, 0), cl(1, 0), true}, {cl(1, 0), cl(2, 0), false}, {cl(last, 7), cl(3, 1), true}, {cl(last, 7), cl(2, 1), false}, {cl(half, 7), cl(2, 1), true}, {cl(half, 7), cl(half, 7), true}, {cl(last, 0), cl(last-1, 0), false},
		{Const(minInt), cl(half, 0), true}, {Const(minInt), cl(last, half-1), true}, {Const(minInt), cl(last, half), false}, {Const(-1), cl(last, last-1), true}, {Const(-1), cl(half, half-1), true}, {Const(-1), cl(last, 0), false},
	} {
		eachForm(x.c, x.d, func(c, d api.Cong) {
			if got := Leq(c, d); got != x.want {
				t.Errorf("P12.1: Leq(%v, %v) = %v, want %v", c, d, got, x.want)
			}
		})
	}
}

func TestJoin(t *testing.T) {
	for _, x := range []struct{ c, d, want api.Cong }{
		{Const(3), Const(9), cl(6, 3)}, {cl(4, 1), cl(6, 3), cl(2, 1)}, {Const(-1), cl(5, 4), cl(5, 4)}, {Const(minInt), Const(maxInt), cl(last, half-1)},
		// numbers alone
		{Const(5), Const(5), Const(5)}, {Const(-5), Const(-5), Const(-5)}, {Const(minInt), Const(minInt), Const(minInt)}, {Const(0), Const(0), Const(0)}, {Const(0), Const(1), cl(1, 0)}, {Const(-3), Const(3), cl(6, 3)}, {Const(-1), Const(1), cl(2, 1)}, {Const(-7), Const(-2), cl(5, 3)},
		{Const(0), Const(minInt), cl(half, 0)}, {Const(-1), Const(maxInt), cl(half, half-1)}, {Const(-1), Const(minInt), cl(half-1, half-2)}, {Const(1), Const(minInt), cl(half+1, 1)}, {Const(minInt), Const(maxInt - 1), cl(last-1, half-2)},
		// a number and a class
		{Const(-1), cl(5, 3), cl(1, 0)}, {Const(-2), cl(6, 1), cl(3, 1)}, {Const(minInt), cl(last, 0), cl(1, 0)}, {Const(minInt), cl(last-1, last-3), cl(2, 0)}, {Const(minInt), cl(last, half-1), cl(last, half-1)}, {Const(minInt), cl(last, last-1), cl(1, 0)}, {Const(7), cl(last, 7), cl(last, 7)}, {Const(0), cl(half, half/2), cl(half/2, 0)},
		// classes
		{cl(6, 1), cl(6, 1), cl(6, 1)}, {cl(6, 1), cl(6, 4), cl(3, 1)}, {cl(6, 1), cl(12, 7), cl(6, 1)}, {cl(6, 1), cl(1, 0), cl(1, 0)}, {cl(half, 0), cl(half, half-1), cl(1, 0)}, {cl(half, 0), cl(half, half/2), cl(half/2, 0)}, {cl(last, 0), cl(last, last-1), cl(1, 0)}, {cl(last, 1), cl(last, last-2), cl(3, 1)}, {cl(last, 3), cl(last-1, 3), cl(1, 0)}, {cl(last, 3), cl(last, 3), cl(last, 3)},
	} {
		eachForm(x.c, x.d, func(c, d api.Cong) {
			if got := Join(c, d); got != x.want {
				t.Errorf("P12.2: Join(%v, %v) = %v, want %v", c, d, got, x.want)
			}
			if got := Join(d, c); got != x.want {
				t.Errorf("P12.2: Join(%v, %v) = %v, want %v", d, c, got, x.want)
			}
		})
	}
}

// Two numbers whose product is 2^64 + 1: no least common multiple is 2^64 itself, as no M has so many factors of 2.
const (
	fermatSmall = 274177
	fermatGreat = 67280421310721
)

// P12.3: of a least common multiple of 2^64 + 1 all classes but one have one number in the range.
func TestMeetAtTheLeastMultipleBeyond(t *testing.T) {
	at := func(x uint64) (api.Cong, api.Cong) {
		return cl(fermatSmall, x%fermatSmall), cl(fermatGreat, x%fermatGreat)
	}
	for _, x := range []struct {
		number uint64 // of the class; above 2^63 its number in the range is 2^64 + 1 less
		want   api.Cong
		ok     bool
	}{
		{0, Const(0), true}, {1, Const(1), true}, {half - 2, Const(maxInt - 1), true}, {half - 1, Const(maxInt), true}, {half, cl(0, 0), false}, {half + 1, Const(minInt), true}, {half + 2, Const(minInt + 1), true}, {last, Const(-2), true}, {last - 1, Const(-3), true},
	} {
		c, d := at(x.number)
		for _, side := range [2][2]api.Cong{{c, d}, {d, c}} {
			if got, ok := Meet(side[0], side[1]); got != x.want || ok != x.ok {
				t.Errorf("P12.3: Meet(%v, %v) = %v, %v, want %v, %v", side[0], side[1], got, ok, x.want, x.ok)
			}
		}
	}
}

func TestMeet(t *testing.T) {
	no := cl(0, 0)
	for _, x := range []struct {
		c, d, want api.Cong
		ok         bool
	}{
		{cl(4, 1), cl(6, 3), cl(12, 9), true}, {cl(4, 1), cl(6, 2), no, false}, {Const(9), cl(4, 1), Const(9), true}, {cl(half, 5), cl(3, 2), Const(5), true}, {cl(last, 0), cl(half, 1), no, false},
		// numbers alone
		{Const(5), Const(5), Const(5), true}, {Const(5), Const(-5), no, false}, {Const(0), Const(0), Const(0), true}, {Const(0), cl(3, 1), no, false}, {Const(-7), cl(3, 2), Const(-7), true}, {Const(-7), cl(3, 1), no, false}, {Const(minInt), cl(1, 0), Const(minInt), true}, {Const(minInt), cl(last, half-1), Const(minInt), true}, {Const(minInt), cl(last, half), no, false}, {Const(-1), cl(half, half-1), Const(-1), true},
		// the least common multiple is below 2^64
		{cl(6, 1), cl(6, 1), cl(6, 1), true}, {cl(6, 1), cl(6, 4), no, false}, {cl(6, 1), cl(1, 0), cl(6, 1), true}, {cl(6, 1), cl(3, 1), cl(6, 1), true}, {cl(2, 0), cl(3, 2), cl(6, 2), true}, {cl(last, 9), cl(1, 0), cl(last, 9), true}, {cl(last, 9), cl(3, 0), cl(last, 9), true}, {cl(last, 9), cl(3, 1), no, false}, {cl(last, last-1), cl(last, last-1), cl(last, last-1), true}, {cl(half, half-1), cl(2, 1), cl(half, half-1), true}, {cl(half, half-1), cl(half, half-1), cl(half, half-1), true},
		{cl(1<<32-1, 1<<32-2), cl(1<<32+1, 1<<32), cl(last, last-1), true}, {cl(1<<32-1, 3), cl(1<<32+1, 3), cl(last, 3), true}, {cl(1<<33, 1<<33-1), cl(3, 2), cl(3<<33, 3<<33-1), true}, {cl(6148914691236517205, 1), cl(3, 2), cl(last, 12297829382473034411), true},
		{cl(1<<62, 3), cl(12, 3), cl(3<<62, 3), true},
		// 2^64 and more, with one number in the range and with none
		{cl(half, 7), cl(6, 1), Const(7), true}, {cl(half, half-1), cl(3, 2), Const(-1), true}, {cl(half, half-1), cl(3, 1), Const(maxInt), true}, {cl(half, 0), cl(3, 0), Const(0), true}, {cl(half, 0), cl(3, 1), Const(minInt), true}, {cl(half, 0), cl(3, 2), no, false}, {cl(last, 0), cl(half, 0), Const(0), true}, {cl(last, half-1), cl(half, half-1), Const(maxInt), true}, {cl(last, half-1), cl(half, 0), Const(minInt), true}, {cl(last, half-1), cl(half, 1), no, false}, {cl(last, half), cl(half, 1), Const(minInt + 1), true},
		{cl(last, last-1), cl(last-1, last-2), Const(-1), true}, {cl(last, 7), cl(last-1, 7), Const(7), true}, {cl(last, 7), cl(last-1, 8), no, false}, {cl(last-1, 0), cl(last-1, 1), no, false}, {cl(last-1, 2), cl(half, 2), Const(2), true}, {cl(last-1, 2), cl(half, 3), no, false}, {cl(1<<32, 1<<32-1), cl(1<<32+1, 1<<32), Const(-1), true}, {cl(1<<32, 5), cl(1<<32+1, 5), Const(5), true}, {cl(1<<32+1, 5), cl(1<<32+2, 5), Const(5), true},
	} {
		eachForm(x.c, x.d, func(c, d api.Cong) {
			for _, side := range [2][2]api.Cong{{c, d}, {d, c}} {
				if got, ok := Meet(side[0], side[1]); got != x.want || ok != x.ok {
					t.Errorf("P12.3: Meet(%v, %v) = %v, %v, want %v, %v", side[0], side[1], got, ok, x.want, x.ok)
				}
			}
		})
	}
}

// way is a call of Up or Down with what it must answer.
type way struct {
	c    api.Cong
	v    int64
	want int64
	ok   bool
}

func holdWays(t *testing.T, name string, call func(c api.Cong, v int64) (int64, bool), rows []way) {
	t.Helper()
	for _, x := range rows {
		for _, c := range forms(x.c) {
			if got, ok := call(c, x.v); got != x.want || ok != x.ok {
				t.Errorf("P12.4: %s(%v, %d) = %d, %v, want %d, %v", name, c, x.v, got, ok, x.want, x.ok)
			}
		}
	}
}

func TestUp(t *testing.T) {
	holdWays(t, "Up", Up, []way{
		{cl(3, 2), 4, 5, true}, {cl(3, 2), 5, 5, true}, {cl(3, 2), 6, 8, true}, {cl(3, 2), -2, -1, true}, {cl(3, 2), -1, -1, true}, {cl(3, 2), 0, 2, true}, {cl(3, 2), -4, -4, true},
		{cl(3, 2), maxInt, 0, false}, {cl(3, 1), maxInt, maxInt, true}, {cl(3, 1), maxInt - 1, maxInt, true}, {cl(3, 0), maxInt, 0, false}, {cl(3, 0), maxInt - 1, maxInt - 1, true}, {cl(3, 1), minInt, minInt, true}, {cl(3, 2), minInt, minInt + 1, true}, {cl(3, 0), minInt, minInt + 2, true},
		{cl(half, 1), 2, 0, false}, {cl(half, 1), 1, 1, true}, {cl(half, 1), minInt, minInt + 1, true}, {cl(half, 1), minInt + 2, 1, true}, {cl(half, half-1), minInt, -1, true}, {cl(half, half-1), 0, maxInt, true}, {cl(half, 0), minInt, minInt, true}, {cl(half, 0), minInt + 1, 0, true}, {cl(half, 0), 1, 0, false},
		{cl(last, half-1), minInt, minInt, true}, {cl(last, half-1), minInt + 1, maxInt, true}, {cl(last, half-1), maxInt, maxInt, true}, {cl(last, half), minInt, minInt + 1, true}, {cl(last, half), minInt + 2, 0, false}, {cl(last, 3), 4, 0, false}, {cl(last, 3), minInt, 3, true}, {cl(last-1, last-2), minInt, -1, true},
		{Const(5), 4, 5, true}, {Const(5), 5, 5, true}, {Const(5), 6, 0, false}, {Const(5), minInt, 5, true}, {Const(5), maxInt, 0, false}, {Const(-5), -5, -5, true}, {Const(-5), -4, 0, false}, {Const(-5), 0, 0, false}, {Const(0), 0, 0, true}, {Const(0), 1, 0, false}, {Const(0), -1, 0, true},
		{Const(minInt), minInt, minInt, true}, {Const(minInt), minInt + 1, 0, false}, {Const(minInt), maxInt, 0, false}, {Const(maxInt), minInt, maxInt, true}, {Const(maxInt), maxInt, maxInt, true}, {cl(1, 0), maxInt, maxInt, true}, {cl(1, 0), minInt, minInt, true},
	})
}

func TestDown(t *testing.T) {
	holdWays(t, "Down", Down, []way{
		{cl(3, 2), -2, -4, true}, {cl(3, 2), 4, 2, true}, {cl(3, 2), 5, 5, true}, {cl(3, 2), 6, 5, true}, {cl(3, 2), 1, -1, true}, {cl(3, 2), -1, -1, true},
		{cl(3, 1), minInt, minInt, true}, {cl(3, 2), minInt, 0, false}, {cl(3, 0), minInt, 0, false}, {cl(3, 2), minInt + 1, minInt + 1, true}, {cl(3, 0), minInt + 1, 0, false}, {cl(3, 0), minInt + 2, minInt + 2, true}, {cl(3, 1), maxInt, maxInt, true}, {cl(3, 0), maxInt, maxInt - 1, true}, {cl(3, 2), maxInt, maxInt - 2, true},
		{cl(half, 1), 0, minInt + 1, true}, {cl(half, 1), minInt, 0, false}, {cl(half, 1), maxInt, 1, true}, {cl(half, half-1), -2, 0, false}, {cl(half, half-1), maxInt, maxInt, true}, {cl(half, half-1), maxInt - 1, -1, true}, {cl(half, 0), minInt, minInt, true}, {cl(half, 0), -1, minInt, true}, {cl(half, 0), maxInt, 0, true},
		{cl(last, 3), 2, 0, false}, {cl(last, 3), 3, 3, true}, {cl(last, 3), maxInt, 3, true}, {cl(last, half-1), maxInt, maxInt, true}, {cl(last, half-1), maxInt - 1, minInt, true}, {cl(last, half-1), minInt, minInt, true}, {cl(last, half), minInt, 0, false}, {cl(last-1, last-2), maxInt, -1, true}, {cl(last-1, last-2), -2, 0, false},
		{Const(5), 4, 0, false}, {Const(5), 5, 5, true}, {Const(5), 6, 5, true}, {Const(5), maxInt, 5, true}, {Const(5), minInt, 0, false}, {Const(-5), -5, -5, true}, {Const(-5), -6, 0, false}, {Const(-5), 0, -5, true}, {Const(0), 0, 0, true}, {Const(0), -1, 0, false}, {Const(0), 1, 0, true},
		{Const(minInt), minInt, minInt, true}, {Const(minInt), maxInt, minInt, true}, {Const(maxInt), maxInt, maxInt, true}, {Const(maxInt), maxInt - 1, 0, false}, {Const(maxInt), minInt, 0, false}, {cl(1, 0), maxInt, maxInt, true}, {cl(1, 0), minInt, minInt, true},
	})
}
