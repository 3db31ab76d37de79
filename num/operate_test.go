package num

import (
	"math"
	"testing"

	"winnow/api"
)

func operators() []api.Op {
	return []api.Op{api.OpNeg, api.OpAdd, api.OpSub, api.OpMul, api.OpDiv, api.OpRem}
}

type trial struct{ a, b, want api.Num }

func holdApply(t *testing.T, op api.Op, list []trial) {
	t.Helper()
	for _, c := range list {
		if got, code := Apply(op, c.a, c.b); got != c.want || code != api.OK {
			t.Errorf("P13.5: Apply(%d, %v, %v) = %v, %d, want %v", op, c.a, c.b, got, code, c.want)
		}
	}
}

func TestOperators(t *testing.T) {
	hidden := api.Num{Bot: true, I: iv(0, 9), C: cl(1, 0)}
	holdApply(t, api.OpNeg, []trial{
		{one(minInt), no(), one(minInt)}, {nu(1, 7, 3, 1), top(), nu(-7, -1, 3, 2)}, {nu(0, 9, 3, 7), hidden, nu(-7, -1, 3, 2)}, {nu(0, 9, 3, 7), nu(9, 0, 1, 0), nu(-7, -1, 3, 2)}, {no(), one(1), no()}, {no(), no(), no()}, {one(5), one(0), one(-5)}, {one(0), no(), one(0)}, {top(), no(), top()}, {nu(minInt, 6, 1, 0), no(), top()}, {nu(minInt+1, 6, 1, 0), no(), nu(-6, maxInt, 1, 0)}, {nu(minInt, maxInt, 6, 4), no(), nu(minInt, maxInt-1, 2, 0)}, {nu(minInt+1, maxInt, 6, 4), no(), nu(-maxInt+3, maxInt-5, 6, 2)}, {nu(minInt, 0, half, 0), no(), nu(minInt, 0, half, 0)}, {nu(minInt, maxInt, last, half-1), no(), top()},
	})
	holdApply(t, api.OpAdd, []trial{
		{nu(0, 8, 4, 0), one(3), nu(3, 11, 4, 3)}, {one(maxInt), one(1), one(minInt)}, {nu(0, maxInt, 1, 0), nu(0, 6, 6, 0), top()}, {nu(0, 8, 4, 0), nu(0, 12, 6, 0), nu(0, 20, 2, 0)}, {nu(maxInt-4, maxInt, 4, 3), one(4), nu(minInt+3, maxInt, 4, 3)}, {nu(maxInt-3, maxInt, 3, 1), one(4), nu(minInt, minInt+3, 1, 0)}, {one(minInt), one(minInt), one(0)}, {no(), one(1), no()}, {one(1), no(), no()}, {hidden, one(1), no()}, {one(1), hidden, no()}, {nu(0, 9, 7, 3), nu(0, 9, 0, 4), one(7)}, {nu(4, 4, 1, 0), nu(0, 9, 3, 7), nu(5, 11, 3, 2)}, {top(), top(), top()},
	})
	holdApply(t, api.OpSub, []trial{
		{nu(0, 8, 4, 0), nu(0, 8, 4, 0), nu(-8, 8, 4, 0)}, {one(minInt), one(1), one(maxInt)}, {one(3), nu(1, 7, 6, 1), nu(-4, 2, 6, 2)}, {nu(minInt, 3, 6, 4), one(1), nu(minInt+1, maxInt, 2, 1)}, {nu(minInt, 3, 6, 3), one(1), nu(minInt+4, 2, 6, 2)}, {no(), top(), no()}, {top(), no(), no()}, {one(0), one(minInt), one(minInt)}, {one(-1), one(minInt), one(maxInt)}, {nu(0, 9, 7, 3), nu(4, 4, 1, 0), one(-1)},
	})
	holdApply(t, api.OpMul, []trial{
		{nu(0, 5, 1, 0), one(4), nu(0, 20, 4, 0)}, {top(), one(4), nu(minInt, maxInt-3, 4, 0)}, {top(), one(0), one(0)}, {one(0), top(), one(0)}, {top(), one(3), top()}, {top(), one(12), nu(minInt, maxInt-3, 4, 0)}, {nu(2, 8, 6, 2), nu(3, 7, 4, 3), nu(6, 56, 2, 0)}, {one(maxInt), one(2), one(-2)}, {one(minInt), one(-1), one(minInt)}, {nu(-5, 5, 1, 0), one(-3), nu(-15, 15, 3, 0)}, {no(), one(0), no()}, {one(0), no(), no()}, {nu(0, 9, 7, 3), nu(0, 9, 7, 5), one(15)}, {nu(minInt, maxInt, half, 0), nu(minInt, maxInt, half, 0), nu(minInt, 0, half, 0)},
	})
	holdApply(t, api.OpDiv, []trial{
		{nu(0, 8, 4, 0), one(2), nu(0, 4, 2, 0)}, {one(7), one(0), no()}, {one(7), nu(0, 1, 1, 0), one(7)}, {one(7), nu(-1, 0, 1, 0), one(-7)}, {one(7), nu(-3, 3, 4, 0), no()}, {one(7), nu(-3, 4, 4, 0), one(1)}, {one(7), nu(-1, 1, 1, 0), nu(-7, 7, 1, 0)}, {one(7), nu(-1, 1, 2, 1), nu(-7, 7, 1, 0)}, {one(minInt), one(-1), one(minInt)}, {nu(minInt, minInt+2, 2, 0), one(-1), nu(minInt, maxInt, 1, 0)}, {nu(6, 12, 6, 0), one(-3), nu(-4, -2, 2, 0)}, {nu(6, 12, 6, 0), one(1), nu(6, 12, 6, 0)}, {nu(6, 12, 6, 0), one(-1), nu(-12, -6, 1, 0)}, {nu(6, 12, 6, 0), one(4), nu(1, 3, 1, 0)}, {one(-7), one(2), one(-3)}, {no(), one(0), no()}, {no(), one(2), no()}, {one(2), no(), no()}, {top(), one(0), no()}, {top(), nu(0, 9, 0, 0), no()}, {nu(0, 9, 9, 9), one(3), nu(0, 3, 3, 0)},
		// a divisor that NonZero leaves alone: the class tells what its interval doesn't
		{nu(8, 16, 8, 0), nu(0, 4, 4, 0), nu(2, 4, 2, 0)}, {nu(8, 16, 8, 0), nu(-2, 0, 2, 0), nu(-8, -4, 4, 0)},
	})
	holdApply(t, api.OpRem, []trial{
		{nu(0, 100, 2, 1), one(8), nu(1, 7, 2, 1)}, {one(-7), one(2), one(-1)}, {one(7), one(-2), one(1)}, {one(minInt), one(-1), one(0)}, {one(5), one(0), no()}, {nu(0, 100, 2, 1), nu(0, 8, 8, 0), nu(1, 7, 2, 1)}, {nu(0, 100, 1, 0), nu(-1, 1, 2, 1), one(0)}, {nu(0, 3, 1, 0), nu(5, 9, 1, 0), nu(0, 3, 1, 0)}, {nu(-100, 100, 6, 1), one(4), nu(-3, 3, 2, 1)}, {nu(-100, 100, 6, 1), one(6), nu(-5, 1, 6, 1)}, {no(), one(2), no()}, {one(2), no(), no()}, {one(2), nu(0, 0, 1, 0), no()}, {nu(0, 9, 7, 3), nu(0, 9, 5, 2), nu(0, 3, 1, 0)}, {top(), one(minInt), nu(-maxInt, maxInt, 1, 0)}, {nu(-maxInt, maxInt, 1, 0), one(minInt), nu(-maxInt, maxInt, 1, 0)}, {nu(minInt, maxInt, half, 7), one(minInt), nu(minInt+7, 7, half, 7)},
	})
}

// P13.5: every operator that makes no number of numbers, whatever it is handed.
func TestOtherOperators(t *testing.T) {
	others := []api.Op{api.OpNone, api.OpNot, api.OpLt, api.OpLe, api.OpGt, api.OpGe, api.OpEq, api.OpNe, api.OpAnd, api.OpOr, -1, -2, 16, 17, 99, math.MaxInt, math.MinInt}
	for _, op := range others {
		for _, a := range []api.Num{no(), one(3), top(), nu(9, 0, 3, 7), {}} {
			for _, b := range []api.Num{no(), one(0), top()} {
				if got, code := Apply(op, a, b); got != (api.Num{}) || code != api.ErrArg {
					t.Errorf("P13.5: Apply(%d, %v, %v) = %v, %d", op, a, b, got, code)
				}
			}
		}
	}
}
