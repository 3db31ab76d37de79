package inv

import (
	"math"
	"testing"

	"winnow/api"
)

const (
	minInt = math.MinInt64
	maxInt = math.MaxInt64
	half   = uint64(1) << 63
	last   = uint64(1<<64 - 1)
	fourth = int64(1) << 62
)

// nu is a Num as it is written, in its normal form or not.
func nu(lo, hi int64, m, r uint64) api.Num {
	return api.Num{I: api.Ival{Lo: lo, Hi: hi}, C: api.Cong{M: m, R: r}}
}

// in is the numbers from lo to hi, which aren't one alone.
func in(lo, hi int64) api.Num { return nu(lo, hi, 1, 0) }

func one(v int64) api.Num { return nu(v, v, 0, uint64(v)) }

func no() api.Num { return api.Num{Bot: true} }

func all() api.Num { return in(minInt, maxInt) }

// hidden is no number, though it looks like some.
func hidden() api.Num { return api.Num{Bot: true, I: api.Ival{Lo: 0, Hi: 9}, C: api.Cong{M: 1}} }

func arithmetic() []api.Op {
	return []api.Op{api.OpNeg, api.OpAdd, api.OpSub, api.OpMul, api.OpDiv, api.OpRem}
}

func comparisons() []api.Op {
	return []api.Op{api.OpLt, api.OpLe, api.OpGt, api.OpGe, api.OpEq, api.OpNe}
}

// strange are operators that are neither.
func strange() []api.Op {
	return []api.Op{api.OpNone, api.OpNot, api.OpAnd, api.OpOr, -1, -2, 16, 17, 99, math.MaxInt, math.MinInt}
}

// trial is what is handed in, and both answers.
type trial struct{ a, b, c, left, right api.Num }

func holdSolve(t *testing.T, op api.Op, list []trial) {
	t.Helper()
	for i, h := range list {
		left, right, code := Solve(op, h.a, h.b, h.c)
		if left != h.left || right != h.right || code != api.OK {
			t.Errorf("P14.1: row %d: Solve(%d, %v, %v, %v) = %v, %v, %d, want %v, %v", i, op, h.a, h.b, h.c, left, right, code, h.left, h.right)
		}
	}
}

func TestSolveNeg(t *testing.T) {
	holdSolve(t, api.OpNeg, []trial{
		{in(0, 9), all(), in(-3, 2), in(0, 3), all()},
		// b isn't looked at
		{in(0, 9), no(), in(-3, 2), in(0, 3), all()}, {in(0, 9), hidden(), in(-3, 2), in(0, 3), all()}, {in(0, 9), nu(9, 0, 1, 0), in(-3, 2), in(0, 3), all()}, {in(0, 9), one(3), in(-3, 2), in(0, 3), all()},
		// nothing is left of a: then of both
		{in(0, 9), all(), in(5, 9), no(), no()}, {nu(0, 8, 4, 0), all(), nu(-7, -3, 4, 1), no(), no()},
		// other forms
		{nu(0, 9, 3, 7), all(), in(-5, -1), nu(1, 4, 3, 1), all()}, {in(0, 9), all(), nu(-8, 0, 3, 2), nu(1, 7, 3, 1), all()}, {nu(0, 9, 0, 4), all(), nu(-4, -4, 1, 0), one(4), all()},
		// the least number's negative is itself
		{all(), no(), one(minInt), one(minInt), all()}, {one(minInt), all(), all(), one(minInt), all()}, {in(-5, 5), all(), one(minInt), no(), no()}, {in(-5, maxInt), all(), in(minInt+1, 0), in(0, maxInt), all()}, {in(-5, 5), all(), in(minInt, minInt+1), in(-5, 5), all()},
	})
}

func TestSolveAddAndSub(t *testing.T) {
	holdSolve(t, api.OpAdd, []trial{
		{in(0, 10), in(1, 2), one(5), in(3, 4), in(1, 2)}, {in(0, 1), in(0, 1), one(9), no(), no()}, {in(0, 10), in(0, 10), in(18, 30), in(8, 10), in(8, 10)}, {all(), all(), one(5), all(), all()}, {all(), one(3), one(5), one(2), one(3)}, {one(3), all(), one(5), one(3), one(2)},
		// classes
		{nu(0, 8, 4, 0), nu(0, 8, 4, 0), one(6), no(), no()}, {in(0, 9), nu(0, 8, 4, 0), one(6), nu(2, 6, 4, 2), nu(0, 4, 4, 0)},
		// they wrap
		{in(maxInt-1, maxInt), one(1), one(minInt), one(maxInt), one(1)}, {one(maxInt), in(0, 5), in(minInt, minInt+2), one(maxInt), in(1, 3)}, {in(0, 5), one(maxInt), in(minInt, minInt+2), in(1, 3), one(maxInt)},
		// other forms
		{nu(0, 10, 0, 4), in(1, 2), nu(5, 5, 1, 0), one(4), one(1)}, {in(0, 10), nu(0, 4, 2, 3), one(5), nu(2, 4, 2, 0), nu(1, 3, 2, 1)}, {in(0, 10), in(1, 2), nu(4, 6, 5, 5), in(3, 4), in(1, 2)},
	})
	holdSolve(t, api.OpSub, []trial{
		{all(), one(1), in(0, 3), in(1, 4), one(1)}, {one(1), all(), in(0, 3), one(1), in(-2, 1)}, {in(0, 9), in(0, 9), in(7, 20), in(7, 9), in(0, 2)}, {in(0, 9), in(0, 9), one(-9), one(0), one(9)}, {in(0, 9), in(0, 9), one(10), no(), no()},
		{nu(0, 9, 3, 0), nu(0, 9, 3, 1), in(-9, 9), nu(0, 9, 3, 0), nu(1, 7, 3, 1)}, {nu(0, 9, 3, 0), nu(0, 9, 3, 1), nu(-9, 9, 3, 0), no(), no()},
		{in(minInt, 0), one(1), one(maxInt), one(minInt), one(1)}, {one(0), in(minInt, 5), one(minInt), one(0), one(minInt)},
		{nu(0, 9, 3, 7), nu(1, 1, 1, 0), nu(0, 5, 3, 6), nu(1, 4, 3, 1), one(1)},
	})
}

func TestSolveMul(t *testing.T) {
	holdSolve(t, api.OpMul, []trial{
		// the chapter's, and stage's
		{in(0, 100), one(3), in(30, 33), in(10, 11), one(3)}, {all(), one(2), one(1), all(), one(2)}, {in(0, 9), in(2, 4), one(0), one(0), in(2, 4)}, {one(0), all(), in(1, 9), no(), no()},
		// c without 0, by its ends or by its class: neither factor is 0
		{in(0, 9), in(-3, 0), one(-6), in(2, 6), in(-3, -1)}, {in(-9, 0), in(0, maxInt), in(1, 9), in(-9, -1), in(1, maxInt)}, {in(0, 9), in(0, 9), nu(-5, 5, 2, 1), in(1, 5), in(1, 5)}, {one(0), in(1, 5), in(1, 9), no(), no()}, {in(1, 5), one(0), in(1, 9), no(), no()}, {in(0, maxInt), in(0, maxInt), nu(-3, 3, 2, 1), in(1, maxInt), in(1, maxInt)},
		// c with 0
		{in(0, maxInt), in(0, maxInt), in(0, 3), in(0, maxInt), in(0, maxInt)}, {in(1, 9), one(0), in(0, 5), in(1, 9), one(0)}, {in(1, 9), in(-1, 1), one(0), in(1, 9), one(0)}, {in(-1, 1), in(1, 9), one(0), one(0), in(1, 9)}, {in(0, 9), in(0, 9), one(0), in(0, 9), in(0, 9)},
		// the right one goes by what both were ahead of the left one's change, and the left one by that too
		{in(1, 9), in(5, 9), in(12, 14), in(1, 2), in(5, 9)}, {in(5, 9), in(1, 9), in(12, 14), in(5, 9), in(1, 2)},
		// one odd number: of either sign, where products wrap
		{all(), one(3), one(1), one(-6148914691236517205), one(3)}, {all(), one(7), one(1), one(7905747460161236407), one(7)}, {one(7), all(), one(1), one(7), one(7905747460161236407)}, {all(), one(-3), one(9), one(-3), one(-3)}, {all(), one(3), one(33), one(11), one(3)}, {all(), one(3), in(30, 33), all(), one(3)}, {all(), one(-1), one(5), one(-5), one(-1)}, {all(), one(-1), in(1, 10), in(-10, -1), one(-1)}, {all(), one(-1), one(minInt), one(minInt), one(-1)}, {all(), one(1), nu(0, 9, 3, 1), nu(1, 7, 3, 1), one(1)}, {all(), one(maxInt), one(1), one(maxInt), one(maxInt)}, {all(), one(minInt + 1), one(2), one(2), one(minInt + 1)}, {one(3), one(5), one(15), one(3), one(5)}, {one(3), one(5), one(16), no(), no()}, {all(), one(3), one(0), one(0), one(3)},
		// one even number, and none that is odd alone
		{all(), one(-2), one(1), all(), one(-2)}, {in(-9, 9), one(-2), one(5), one(-2), one(-2)}, {in(-9, 9), one(4), in(8, 11), one(2), one(4)}, {all(), one(0), one(0), all(), one(0)}, {all(), one(minInt), one(minInt), all(), one(minInt)}, {all(), nu(1, 3, 2, 1), one(5), all(), nu(1, 3, 2, 1)},
		// the greatest and the least product that don't wrap, and those beside them
		{in(0, fourth-1), one(2), in(10, 11), one(5), one(2)}, {in(0, fourth), one(2), in(10, 11), in(1, fourth), one(2)}, {in(-fourth, 0), one(2), in(-11, -10), one(-5), one(2)}, {in(-fourth-1, 0), one(2), in(-11, -10), in(-fourth-1, -1), one(2)}, {in(minInt, -1), one(-2), in(10, 11), in(minInt, -1), one(-2)}, {one(2), in(0, fourth-1), in(10, 11), one(2), one(5)}, {one(2), in(0, fourth), in(10, 11), one(2), in(1, fourth)}, {in(1, 2), in(minInt, -1), in(-4, -2), in(1, 2), in(minInt, -1)}, {in(minInt/2, -1), in(1, 2), in(-4, -2), in(-4, -1), in(1, 2)},
		// one corner alone wraps
		{in(-2, 1), in(minInt, 1), in(3, 4), in(-2, 1), in(minInt, 1)}, {in(-1, 2), in(2, maxInt), in(3, 4), in(-1, 2), in(2, maxInt)}, {in(2, maxInt), in(-1, 2), in(3, 4), in(2, maxInt), in(-1, 2)}, {in(minInt, 1), in(-2, 1), in(3, 4), in(minInt, 1), in(-2, 1)},
		// a factor that has 0 tells nothing by division, one that hasn't does
		{in(-9, 9), in(-9, 9), one(7), in(-9, 9), in(-9, 9)}, {in(-9, 9), in(2, 9), one(7), in(0, 3), in(2, 9)}, {in(-9, 9), nu(-9, 9, 4, 1), one(7), in(-7, 7), nu(-7, 9, 4, 1)},
		// other forms
		{nu(0, 100, 1, 7), nu(3, 3, 1, 0), in(30, 33), in(10, 11), one(3)}, {in(0, 100), nu(1, 5, 0, 3), nu(30, 33, 1, 9), in(10, 11), one(3)}, {in(0, 100), nu(2, 5, 4, 7), in(30, 33), in(10, 11), one(3)}, {in(0, 9), in(2, 4), nu(-1, 1, 2, 2), one(0), in(2, 4)}, {all(), nu(2, 5, 4, 7), nu(30, 34, 7, 33), one(11), one(3)}, {nu(0, 9, 4, 8), in(2, 4), in(1, 9), one(4), one(2)},
	})
}

func TestSolveDiv(t *testing.T) {
	holdSolve(t, api.OpDiv, []trial{
		{all(), one(3), one(2), in(4, 8), one(3)}, {in(0, 9), one(0), all(), no(), no()}, {one(minInt), one(-1), one(minInt), one(minInt), one(-1)},
		{all(), one(-3), one(2), in(-8, -4), one(-3)}, {all(), one(3), one(-2), in(-8, -4), one(3)}, {all(), one(-3), one(-2), in(4, 8), one(-3)}, {all(), one(3), one(0), in(-2, 2), one(3)}, {all(), one(1), in(3, 5), in(3, 5), one(1)}, {all(), one(-1), in(3, 5), in(-5, -3), one(-1)}, {all(), in(2, 5), in(1, 3), in(-2, 19), in(2, 5)}, {all(), in(-5, -2), in(1, 3), in(-19, 2), in(-5, -2)}, {all(), in(-2, 5), in(-3, 1), in(-19, 10), in(-2, 5)},
		// divisors that hold 0, or are it alone
		{all(), in(-5, 5), one(2), in(-14, 14), in(-5, 5)}, {all(), in(0, 5), one(2), in(-2, 14), in(1, 5)}, {all(), in(-5, 0), one(2), in(-14, 2), in(-5, -1)}, {all(), nu(0, 9, 0, 0), one(2), no(), no()}, {all(), nu(-3, 3, 4, 4), one(2), no(), no()}, {all(), in(0, 1), one(2), one(2), one(1)}, {all(), nu(0, 8, 4, 0), one(2), in(1, 23), nu(4, 8, 4, 0)},
		// the quotient that wraps
		{in(minInt, 5), in(-1, 3), in(minInt, 0), in(minInt, 5), in(-1, 3)}, {in(minInt, 5), in(-1, 0), one(minInt), in(minInt, 5), one(-1)}, {in(minInt+1, 5), one(-1), one(minInt), no(), no()}, {in(minInt, 5), one(-1), in(minInt+1, 0), in(0, 5), one(-1)}, {in(minInt, 5), one(-2), one(minInt), no(), no()}, {in(minInt, 5), nu(-3, 3, 6, 3), one(minInt), in(minInt, 5), nu(-3, 3, 6, 3)}, {nu(minInt, 5, 2, 1), one(-1), one(minInt), no(), no()}, {all(), one(-1), nu(minInt, 0, half, 0), all(), one(-1)}, {all(), one(-1), nu(minInt+1, maxInt, 2, 1), in(minInt+1, maxInt), one(-1)},
		// clipped: nothing is left, one number, all
		{all(), one(2), one(maxInt), no(), no()}, {all(), one(2), one(minInt), no(), no()}, {all(), one(2), one(fourth), one(maxInt), one(2)}, {all(), one(2), one(fourth + 1), no(), no()}, {all(), one(2), one(-fourth), in(minInt, minInt+1), one(2)}, {all(), one(2), one(-fourth - 1), no(), no()}, {all(), one(2), one(fourth - 1), in(maxInt-2, maxInt), one(2)}, {all(), one(4), all(), all(), one(4)}, {all(), one(4), one(fourth/2 + 1), no(), no()}, {all(), in(2, 4), one(fourth), in(maxInt-2, maxInt), in(2, 4)},
		// the farthest divisor, the greatest products
		{all(), one(minInt), one(0), in(-maxInt, maxInt), one(minInt)}, {all(), one(minInt), one(1), in(minInt, -1), one(minInt)}, {all(), one(minInt), one(-1), in(1, maxInt), one(minInt)}, {all(), one(minInt), one(2), no(), no()}, {all(), one(minInt), one(-2), no(), no()}, {all(), one(minInt), in(minInt, 0), in(-maxInt, maxInt), one(minInt)}, {all(), one(maxInt), one(1), in(1, maxInt), one(maxInt)}, {all(), one(maxInt), one(-1), in(minInt, -1), one(maxInt)}, {all(), all(), all(), all(), all()}, {in(-9, 9), one(minInt), one(minInt), no(), no()}, {in(-9, 9), in(minInt, maxInt-1), one(1), in(-9, 9), in(minInt, maxInt-1)}, {all(), in(-5, maxInt), one(0), in(-maxInt+1, maxInt-1), in(-5, maxInt)},
		// a's class stays, other forms
		{nu(0, 100, 3, 1), one(10), one(2), nu(13, 28, 3, 1), one(10)}, {nu(0, 100, 3, 7), nu(10, 10, 1, 0), nu(0, 3, 3, 5), nu(13, 28, 3, 1), one(10)}, {in(0, 3), one(2), one(5), no(), no()}, {nu(0, 9, 0, 5), nu(0, 9, 0, 2), nu(2, 2, 1, 0), one(5), one(2)}, {all(), nu(0, 5, 2, 3), nu(1, 4, 3, 5), in(-2, 14), nu(1, 5, 2, 1)},
	})
}

func TestSolveRem(t *testing.T) {
	holdSolve(t, api.OpRem, []trial{
		{all(), one(4), one(3), nu(3, maxInt, 4, 3), one(4)}, {in(0, 9), in(1, 5), one(4), nu(4, 9, 5, 4), one(5)}, {all(), all(), one(minInt), one(minInt), all()},
		// c around 0: only a class can be told
		{all(), in(1, 9), in(-3, 3), all(), in(1, 9)}, {in(-9, 9), in(1, 9), in(0, 3), in(-9, 9), in(1, 9)}, {in(-9, 9), in(1, 9), in(-3, 0), in(-9, 9), in(1, 9)}, {in(-9, 9), in(0, 9), one(0), in(-9, 9), in(1, 9)}, {all(), one(4), one(0), nu(minInt, maxInt-3, 4, 0), one(4)},
		// c above 0, below 0; divisors of either sign, and around 0
		{in(-9, 9), in(1, 9), in(2, 3), in(2, 9), in(3, 9)}, {in(-9, 9), in(1, 9), in(-3, -2), in(-9, -2), in(3, 9)}, {in(-9, 9), in(-9, -1), in(2, 3), in(2, 9), in(-9, -3)}, {in(-9, 9), in(-9, 0), in(-3, -2), in(-9, -2), in(-9, -3)}, {in(-9, 9), in(-9, 9), in(2, 3), in(2, 9), in(-9, 9)}, {in(-9, 9), in(-9, 9), in(-3, -2), in(-9, -2), in(-9, 9)}, {in(-9, -1), all(), in(1, 2), no(), no()}, {in(1, 9), all(), in(-2, -1), no(), no()}, {all(), in(1, 3), in(5, 6), no(), no()}, {all(), in(-3, -1), in(5, 6), no(), no()}, {all(), in(1, 5), in(5, 6), no(), no()}, {all(), in(1, 6), in(5, 7), in(5, maxInt), one(6)}, {all(), in(-6, -1), in(-7, -5), in(minInt, -5), one(-6)}, {in(-9, 9), one(0), all(), no(), no()}, {all(), nu(-1, 1, 2, 2), all(), no(), no()},
		// the greatest absolute value
		{all(), in(1, 9), one(minInt), no(), no()}, {all(), in(1, maxInt), one(minInt), no(), no()}, {all(), in(minInt, -1), one(minInt), no(), no()}, {all(), in(1, maxInt), one(maxInt), no(), no()}, {all(), in(minInt, -1), one(maxInt), one(maxInt), one(minInt)}, {all(), in(minInt, -1), one(minInt + 1), one(minInt + 1), one(minInt)}, {all(), in(1, maxInt), one(minInt + 1), no(), no()}, {all(), in(1, maxInt), one(maxInt - 1), one(maxInt - 1), one(maxInt)}, {all(), in(minInt, -1), one(maxInt - 1), in(maxInt-1, maxInt), in(minInt, minInt+1)}, {all(), in(minInt, maxInt-1), one(maxInt), one(maxInt), in(minInt, maxInt-1)}, {all(), in(minInt, -1), in(minInt, minInt+1), in(minInt, minInt+1), one(minInt)},
		// one number that comes out only behind the cut
		{in(0, 9), in(-5, -1), one(4), nu(4, 9, 5, 4), one(-5)}, {in(-9, 9), in(1, 5), one(-4), nu(-9, -4, 5, 1), one(5)}, {in(-9, 9), in(0, 1), one(0), in(-9, 9), one(1)}, {in(-9, 9), nu(0, 4, 4, 0), one(0), nu(-8, 8, 4, 0), one(4)}, {in(-9, 9), nu(2, 6, 4, 2), in(3, 5), in(3, 9), one(6)},
		// c of one number and of a class
		{all(), one(6), nu(0, 4, 4, 0), nu(minInt, maxInt-1, 2, 0), one(6)}, {all(), one(6), nu(1, 5, 4, 1), nu(1, maxInt, 2, 1), one(6)}, {all(), one(-6), nu(1, 5, 4, 1), nu(1, maxInt, 2, 1), one(-6)}, {all(), one(4), nu(-3, 1, 4, 1), nu(minInt+1, maxInt-2, 4, 1), one(4)}, {all(), one(4), one(-3), nu(minInt+1, -3, 4, 1), one(4)}, {all(), one(-4), one(-3), nu(minInt+1, -3, 4, 1), one(-4)}, {all(), one(5), nu(1, 3, 2, 1), in(1, maxInt), one(5)}, {all(), one(6), nu(-9, 9, 3, 1), nu(minInt, maxInt, 3, 1), one(6)}, {all(), one(3), nu(-9, 9, 6, 1), nu(minInt, maxInt, 3, 1), one(3)},
		// divisors of the least number, 1 and -1
		{all(), one(minInt), nu(-5, 5, 10, 5), nu(minInt+1, maxInt, 2, 1), one(minInt)}, {all(), one(minInt), one(7), one(7), one(minInt)}, {all(), one(minInt), one(0), nu(minInt, 0, half, 0), one(minInt)}, {all(), one(minInt), one(-7), one(-7), one(minInt)}, {all(), one(1), one(0), all(), one(1)}, {all(), one(-1), one(0), all(), one(-1)}, {all(), one(1), one(1), no(), no()}, {all(), one(-1), one(1), no(), no()}, {one(minInt), one(-1), one(0), one(minInt), one(-1)}, {all(), one(maxInt), one(5), one(5), one(maxInt)},
		// a's class, and other forms
		{nu(0, 9, 2, 0), one(4), one(1), no(), no()}, {nu(0, 90, 6, 7), nu(4, 4, 1, 0), nu(0, 3, 3, 4), nu(1, 85, 12, 1), one(4)}, {in(0, 9), nu(1, 5, 1, 3), nu(4, 9, 7, 11), nu(4, 9, 5, 4), one(5)}, {in(0, 20), nu(3, 9, 4, 6), nu(2, 5, 3, 1), nu(4, 16, 6, 4), one(6)},
	})
}

// P14.1: with no number on a place there is no operand (but of OpNeg b isn't looked at).
func TestSolveOfNone(t *testing.T) {
	for _, op := range arithmetic() {
		for _, none := range []api.Num{no(), hidden(), nu(9, 0, 1, 0), nu(5, 6, 4, 3), nu(0, 3, 0, 5)} {
			for _, other := range []api.Num{all(), one(0), one(5), nu(0, 9, 3, 7), no()} {
				holdSolve(t, op, []trial{{none, other, other, no(), no()}, {other, other, none, no(), no()}})
				if op != api.OpNeg {
					holdSolve(t, op, []trial{{other, none, other, no(), no()}})
				}
			}
		}
	}
}

// P14.1: every operator that makes no number, whatever it is handed.
func TestSolveOfOtherOperators(t *testing.T) {
	for _, op := range append(comparisons(), strange()...) {
		for _, a := range []api.Num{no(), one(3), all(), nu(9, 0, 3, 7), {}} {
			for _, c := range []api.Num{no(), one(0), all()} {
				if left, right, code := Solve(op, a, c, c); left != no() || right != no() || code != api.ErrArg {
					t.Errorf("P14.1: Solve(%d, %v, %v, %v) = %v, %v, %d", op, a, c, c, left, right, code)
				}
			}
		}
	}
}
