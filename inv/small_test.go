package inv

import (
	"testing"

	"winnow/api"
	"winnow/num"
)

// reach is how far from 0 the numbers of small operands lie.
const reach = 3

// smalls are all sets of small numbers that are Nums, each by its normal form, with its numbers.
func smalls() map[api.Num][]int64 {
	out := map[api.Num][]int64{}
	for lo := int64(-reach); lo <= reach; lo++ {
		for hi := lo; hi <= reach; hi++ {
			for step := int64(1); step <= max(1, hi-lo); step++ {
				var numbers []int64
				for v := lo; v <= hi; v += step {
					numbers = append(numbers, v)
				}
				a := num.Bot()
				for _, v := range numbers {
					a = num.Join(a, num.Const(v))
				}
				out[a] = numbers
			}
		}
	}
	return out
}

// results are Nums that the operators' results on small numbers lie in, and some more.
func results() []api.Num {
	out := []api.Num{all(), nu(minInt, maxInt-1, 2, 0), nu(minInt+1, maxInt, 2, 1), in(1, maxInt), in(minInt, -1)}
	for lo := int64(-9); lo <= 9; lo++ {
		for hi := lo; hi <= 9; hi += 3 {
			for step := uint64(1); step <= 4; step += 1 + uint64(hi-lo)%2 {
				out = append(out, num.Make(api.Ival{Lo: lo, Hi: hi}, api.Cong{M: step, R: uint64(lo + 12)}))
			}
		}
	}
	return out
}

// P14.4: of small Nums, by all their numbers.
func TestSmallNumsLoseNothing(t *testing.T) {
	list, ends := smalls(), results()
	for a, xs := range list {
		for b, ys := range list {
			for _, c := range ends {
				for _, op := range arithmetic() {
					holdSmall(t, op, a, b, c, xs, ys)
				}
			}
			holdSmallCompare(t, a, b, xs, ys)
		}
	}
}

func holdSmall(t *testing.T, op api.Op, a, b, c api.Num, xs, ys []int64) {
	t.Helper()
	left, right, _ := Solve(op, a, b, c)
	for _, x := range xs {
		for _, y := range ys {
			v, ok := resultOf(op, x, y)
			if ok && num.Has(c, v) && (!num.Has(left, x) || !num.Has(right, y)) {
				t.Fatalf("P14.4: Solve(%d, %v, %v, %v) = %v, %v; of %d and %d it is %d", op, a, b, c, left, right, x, y, v)
			}
		}
	}
	if op == api.OpNeg {
		b = all()
	}
	holdForms(t, "Solve", [2]api.Num{left, right}, [2]api.Num{a, b})
	if left.Bot != right.Bot {
		t.Fatalf("P14.1: Solve(%d, %v, %v, %v) = %v, %v", op, a, b, c, left, right)
	}
}

// holdSmallCompare: a comparison loses nothing, and tells nothing just where no pair holds.
func holdSmallCompare(t *testing.T, a, b api.Num, xs, ys []int64) {
	t.Helper()
	for _, op := range comparisons() {
		left, right, _ := Compare(op, a, b)
		some := false
		for _, x := range xs {
			for _, y := range ys {
				if holds(op, x, y) && (!num.Has(left, x) || !num.Has(right, y)) {
					t.Fatalf("P14.4: Compare(%d, %v, %v) = %v, %v, without %d and %d", op, a, b, left, right, x, y)
				}
				some = some || holds(op, x, y)
			}
		}
		if left.Bot == some || right.Bot == some {
			t.Fatalf("P14.2: Compare(%d, %v, %v) = %v, %v", op, a, b, left, right)
		}
		holdForms(t, "Compare", [2]api.Num{left, right}, [2]api.Num{a, b})
	}
}
