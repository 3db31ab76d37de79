package inv

import (
	"testing"

	"winnow/api"
)

type match struct{ a, b, left, right api.Num }

// holdCompare holds op, and the comparison other, which says the same with its sides changed about.
func holdCompare(t *testing.T, op, other api.Op, list []match) {
	t.Helper()
	for i, h := range list {
		if left, right, code := Compare(op, h.a, h.b); left != h.left || right != h.right || code != api.OK {
			t.Errorf("P14.2: row %d: Compare(%d, %v, %v) = %v, %v, %d, want %v, %v", i, op, h.a, h.b, left, right, code, h.left, h.right)
		}
		if right, left, code := Compare(other, h.b, h.a); left != h.left || right != h.right || code != api.OK {
			t.Errorf("P14.2: row %d: Compare(%d, %v, %v) = %v, %v, %d, want %v, %v", i, other, h.b, h.a, right, left, code, h.right, h.left)
		}
	}
}

func TestCompareByOrder(t *testing.T) {
	holdCompare(t, api.OpLt, api.OpGt, []match{
		{in(0, 9), in(0, 5), in(0, 4), in(1, 5)}, {in(5, 20), in(0, 9), in(5, 8), in(6, 9)}, {in(0, 9), in(20, 30), in(0, 9), in(20, 30)}, {in(20, 30), in(0, 9), no(), no()}, {in(5, 9), in(0, 5), no(), no()}, {in(5, 9), in(0, 6), one(5), one(6)}, {one(5), one(5), no(), no()}, {one(5), one(6), one(5), one(6)}, {one(6), one(5), no(), no()},
		{nu(0, 9, 3, 0), nu(0, 9, 3, 0), nu(0, 6, 3, 0), nu(3, 9, 3, 0)}, {nu(0, 9, 5, 4), nu(0, 8, 4, 3), one(4), one(7)}, {nu(1, 8, 7, 1), in(0, 8), one(1), in(2, 8)},
		{in(0, 9), one(minInt), no(), no()}, {one(maxInt), in(0, 9), no(), no()}, {one(maxInt), one(minInt), no(), no()}, {all(), all(), in(minInt, maxInt-1), in(minInt+1, maxInt)}, {one(minInt), all(), one(minInt), in(minInt+1, maxInt)}, {all(), one(maxInt), in(minInt, maxInt-1), one(maxInt)}, {all(), one(minInt + 1), one(minInt), one(minInt + 1)}, {one(maxInt - 1), all(), one(maxInt - 1), one(maxInt)}, {one(minInt), one(maxInt), one(minInt), one(maxInt)}, {all(), one(minInt), no(), no()}, {one(maxInt), all(), no(), no()}, {one(minInt), one(minInt), no(), no()},
		// other forms
		{nu(0, 9, 3, 7), nu(0, 5, 0, 5), nu(1, 4, 3, 1), one(5)}, {nu(0, 9, 3, 8), nu(0, 9, 4, 9), nu(2, 8, 3, 2), nu(5, 9, 4, 1)}, {nu(4, 4, 1, 0), nu(5, 5, 1, 0), one(4), one(5)},
	})
	holdCompare(t, api.OpLe, api.OpGe, []match{
		{in(0, 9), in(0, 5), in(0, 5), in(0, 5)}, {in(5, 20), in(0, 9), in(5, 9), in(5, 9)}, {in(6, 9), in(0, 5), no(), no()}, {in(5, 9), in(0, 5), one(5), one(5)}, {one(5), one(5), one(5), one(5)}, {one(6), one(5), no(), no()}, {in(0, 9), in(9, 12), in(0, 9), in(9, 12)},
		{nu(0, 9, 3, 0), nu(0, 8, 4, 0), nu(0, 6, 3, 0), nu(0, 8, 4, 0)}, {nu(3, 9, 3, 0), nu(0, 8, 4, 0), nu(3, 6, 3, 0), nu(4, 8, 4, 0)},
		{all(), one(minInt), one(minInt), one(minInt)}, {one(maxInt), all(), one(maxInt), one(maxInt)}, {all(), all(), all(), all()}, {one(maxInt), one(minInt), no(), no()}, {in(0, 9), one(minInt), no(), no()}, {one(maxInt), in(0, 9), no(), no()}, {one(minInt), all(), one(minInt), all()},
		{nu(0, 9, 3, 7), nu(0, 9, 0, 4), nu(1, 4, 3, 1), one(4)}, {nu(0, 9, 4, 7), nu(0, 9, 4, 6), one(3), one(6)},
	})
}

func TestCompareByLikeness(t *testing.T) {
	holdCompare(t, api.OpEq, api.OpEq, []match{
		{in(0, 9), in(5, 20), in(5, 9), in(5, 9)}, {in(0, 4), in(5, 20), no(), no()}, {nu(0, 20, 4, 1), nu(3, 30, 6, 3), one(9), one(9)}, {nu(0, 9, 2, 0), nu(0, 9, 2, 1), no(), no()}, {all(), one(minInt), one(minInt), one(minInt)}, {all(), one(maxInt), one(maxInt), one(maxInt)}, {all(), all(), all(), all()}, {nu(0, 9, 3, 7), nu(0, 9, 1, 4), nu(1, 7, 3, 1), nu(1, 7, 3, 1)},
	})
	holdCompare(t, api.OpNe, api.OpNe, []match{
		{in(0, 9), one(9), in(0, 8), one(9)}, {in(0, 9), one(0), in(1, 9), one(0)}, {in(0, 9), one(4), in(0, 9), one(4)}, {in(0, 9), one(10), in(0, 9), one(10)}, {in(0, 9), one(-1), in(0, 9), one(-1)}, {one(3), one(3), no(), no()}, {one(3), one(4), one(3), one(4)}, {one(0), one(0), no(), no()}, {in(0, 9), in(0, 9), in(0, 9), in(0, 9)}, {in(0, 9), in(9, 12), in(0, 9), in(9, 12)}, {all(), all(), all(), all()},
		// two numbers: one is left
		{in(0, 1), one(0), one(1), one(0)}, {in(0, 1), one(1), one(0), one(1)}, {nu(-5, 5, 10, 5), one(5), one(-5), one(5)}, {nu(-5, 5, 10, 5), one(-5), one(5), one(-5)},
		// classes: the end goes to the next number; 1 is within and isn't in the class
		{nu(0, 9, 3, 0), one(0), nu(3, 9, 3, 0), one(0)}, {nu(0, 9, 3, 0), one(9), nu(0, 6, 3, 0), one(9)}, {nu(0, 9, 3, 0), one(3), nu(0, 9, 3, 0), one(3)}, {nu(0, 9, 3, 0), one(1), nu(0, 9, 3, 0), one(1)},
		{all(), one(minInt), in(minInt+1, maxInt), one(minInt)}, {all(), one(maxInt), in(minInt, maxInt-1), one(maxInt)}, {one(minInt), one(minInt), no(), no()}, {one(maxInt), one(maxInt), no(), no()}, {nu(minInt, maxInt, last, half-1), one(minInt), one(maxInt), one(minInt)}, {nu(minInt, maxInt, last, half-1), one(maxInt), one(minInt), one(maxInt)}, {one(minInt), one(maxInt), one(minInt), one(maxInt)}, {all(), one(0), all(), one(0)},
		// other forms: the ends as they are written aren't numbers of it, or there is one alone
		{nu(0, 9, 3, 7), one(0), nu(1, 7, 3, 1), one(0)}, {nu(0, 9, 3, 7), one(1), nu(4, 7, 3, 1), one(1)}, {nu(0, 9, 3, 7), nu(0, 9, 0, 7), nu(1, 4, 3, 1), one(7)}, {in(0, 9), nu(8, 10, 7, 9), in(0, 8), one(9)}, {nu(3, 3, 1, 0), nu(0, 4, 5, 3), no(), no()},
	})
}

// P14.2: with no number on a side nothing holds; and no other operator is a comparison.
func TestCompareOfNoneAndOthers(t *testing.T) {
	for _, op := range comparisons() {
		for _, none := range []api.Num{no(), hidden(), nu(9, 0, 1, 0), nu(5, 6, 4, 3), nu(0, 3, 0, 5)} {
			for _, other := range []api.Num{all(), one(0), one(5), one(minInt), one(maxInt), nu(0, 9, 3, 7), no()} {
				holdCompare(t, op, op, []match{{none, other, no(), no()}})
			}
		}
	}
	for _, op := range append(arithmetic(), strange()...) {
		for _, a := range []api.Num{no(), one(3), all(), nu(9, 0, 3, 7), {}} {
			for _, b := range []api.Num{no(), one(0), all()} {
				if left, right, code := Compare(op, a, b); left != no() || right != no() || code != api.ErrArg {
					t.Errorf("P14.2: Compare(%d, %v, %v) = %v, %v, %d", op, a, b, left, right, code)
				}
			}
		}
	}
}

func TestNegate(t *testing.T) {
	for _, pair := range [][2]api.Op{{api.OpLt, api.OpGe}, {api.OpLe, api.OpGt}, {api.OpEq, api.OpNe}} {
		for _, p := range [][2]api.Op{pair, {pair[1], pair[0]}} {
			if got, code := Negate(p[0]); got != p[1] || code != api.OK {
				t.Errorf("P14.3: Negate(%d) = %d, %d, want %d", p[0], got, code, p[1])
			}
		}
	}
	for _, op := range append(arithmetic(), strange()...) {
		if got, code := Negate(op); got != api.OpNone || code != api.ErrArg {
			t.Errorf("P14.3: Negate(%d) = %d, %d", op, got, code)
		}
	}
}

// P14.3: just one of a comparison and its negation holds of two numbers.
func TestNegateHoldsWhereTheOtherDoesNot(t *testing.T) {
	for _, op := range comparisons() {
		other, _ := Negate(op)
		for _, x := range []int64{minInt, -1, 0, 1, maxInt} {
			for _, y := range []int64{minInt, -1, 0, 1, maxInt} {
				left, _, _ := Compare(op, one(x), one(y))
				right, _, _ := Compare(other, one(x), one(y))
				if left.Bot == right.Bot {
					t.Errorf("P14.3: %d and its negation %d of %d and %d: %v, %v", op, other, x, y, left, right)
				}
			}
		}
	}
}
