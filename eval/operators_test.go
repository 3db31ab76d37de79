package eval

import (
	"math"
	"math/big"
	"strconv"
	"testing"

	"winnow/api"
)

func decimal(v int64) string { return strconv.FormatInt(v, 10) }

// edges are numbers around 0 and around those at which something wraps.
var edges = []int64{
	0, 1, -1, 2, -2, 3, -3, 7, -7, 10, -10, 1 << 31, 1<<32 - 1, 1 << 32, -1 << 32, 3037000499, 3037000500, -3037000500, 1 << 62, 1<<62 - 1, -1 << 62,
	math.MaxInt64, math.MaxInt64 - 1, math.MinInt64, math.MinInt64 + 1, math.MinInt64 / 2, math.MaxInt64 / 3,
}

// wrapped is a whole number's lowest 64 bits, read as an int64.
func wrapped(v *big.Int) int64 {
	low := new(big.Int).And(v, new(big.Int).SetUint64(math.MaxUint64))
	return int64(low.Uint64())
}

// exactly is what an operator makes of two whole numbers; nil: it faults.
func exactly(op api.Op, a, b *big.Int) *big.Int {
	switch op {
	case api.OpAdd:
		return new(big.Int).Add(a, b)
	case api.OpSub:
		return new(big.Int).Sub(a, b)
	case api.OpMul:
		return new(big.Int).Mul(a, b)
	}
	if b.Sign() == 0 {
		return nil
	}
	if op == api.OpDiv {
		return new(big.Int).Quo(a, b)
	}
	return new(big.Int).Rem(a, b)
}

func holds(op api.Op, order int) bool {
	return map[api.Op]bool{
		api.OpLt: order < 0, api.OpLe: order <= 0, api.OpGt: order > 0, api.OpGe: order >= 0, api.OpEq: order == 0, api.OpNe: order != 0,
	}[op]
}

// P6.2: the operators of numbers, at the edges of 64 bits.
func TestArithmetic(t *testing.T) {
	for sign, op := range map[string]api.Op{"+": api.OpAdd, "-": api.OpSub, "*": api.OpMul, "/": api.OpDiv, "%": api.OpRem} {
		p := mustText(t, "var x; var y; var z; z := x "+sign+" y;")
		for _, a := range edges {
			for _, b := range edges {
				s := storeOf([]int64{a, b, 5})
				exact := exactly(op, big.NewInt(a), big.NewInt(b))
				if exact == nil {
					wantInt(t, p, s, 4, 0, 0)
					wantFault(t, p, s, 3, 0)
					continue
				}
				wantInt(t, p, s, 4, wrapped(exact), -1)
				wantDone(t, p, s, 3, 0, storeOf([]int64{a, b, wrapped(exact)}))
			}
		}
	}
}

// P6.2: the comparisons, at the edges of 64 bits: they look at the numbers, not at a difference that wraps.
func TestComparisons(t *testing.T) {
	for sign, op := range map[string]api.Op{"<": api.OpLt, "<=": api.OpLe, ">": api.OpGt, ">=": api.OpGe, "==": api.OpEq, "!=": api.OpNe} {
		p := mustText(t, "var x; var y; assert x "+sign+" y;")
		for _, a := range edges {
			for _, b := range edges {
				s := storeOf([]int64{a, b})
				want := holds(op, big.NewInt(a).Cmp(big.NewInt(b)))
				wantBool(t, p, s, 3, want, -1)
				if want {
					wantDone(t, p, s, 2, 0, s)
				} else {
					wantFault(t, p, s, 2, 0)
				}
			}
		}
	}
}

// P6.2: numbers, scalars and the sign; the least number's opposite is itself.
func TestAtoms(t *testing.T) {
	p := mustText(t, "var x; x := -x;")
	for _, a := range edges {
		s := storeOf([]int64{a})
		wantInt(t, p, s, 2, wrapped(new(big.Int).Neg(big.NewInt(a))), -1)
		wantInt(t, p, s, 3, a, -1)
		if a >= 0 {
			wantInt(t, mustText(t, "var x; x := "+decimal(a)+";"), s, 2, a, -1)
		}
	}
}

// P6.2: the values that the document names one by one.
func TestNamedValues(t *testing.T) {
	least := "(-9223372036854775807 - 1)"
	for text, want := range map[string]int64{
		least: math.MinInt64, "-" + least: math.MinInt64, least + " / -1": math.MinInt64, least + " % -1": 0, "7 / 2": 3, "-7 / 2": -3, "7 / -2": -3, "-7 / -2": 3, "7 % 2": 1,
		"-7 % 2": -1, "7 % -2": 1, "-7 % -2": -1, "0 / 5": 0, "0 % -5": 0, "9223372036854775807 + 1": math.MinInt64, least + " - 1": math.MaxInt64, "9223372036854775807 * 2": -2,
		"9 - 3 - 2": 4, "2 + 3 * 4": 14, "(2 + 3) * 4": 20, "100 / 10 / 5": 2, "100 / (10 / 5)": 50, "17 % 10 % 4": 3, "- - 5": 5,
	} {
		p := mustText(t, "var x; x := "+text+";")
		wantInt(t, p, mustZero(t, p), 2, want, -1)
	}
}

// P6.2: the operators of conditions, with operands that hold, that don't and that fault, on either side.
func TestConnectives(t *testing.T) {
	const faults = 2
	operands := []string{"false", "true", "1 / 0 == 0"}
	inBrackets := func(i int) string { return "(" + operands[i] + ")" }
	ask := func(text string, want int, site int) {
		t.Helper()
		p := mustText(t, "assert "+text+";")
		s := api.Store{}
		if want == faults {
			wantBool(t, p, s, 1, false, site)
			wantFault(t, p, s, 0, site)
			return
		}
		wantBool(t, p, s, 1, want == 1, -1)
		if want == 1 {
			wantDone(t, p, s, 0, 0, s)
		} else {
			wantFault(t, p, s, 0, 0)
		}
	}
	for left := range operands {
		ask(operands[left], left, 1)
		ask("!"+inBrackets(left), []int{1, 0, faults}[left], 1)
		ask("!!"+inBrackets(left), left, 1)
		for right := range operands {
			and, or := right, right
			if left != 1 {
				and = left
			}
			if left != 0 {
				or = left
			}
			ask(inBrackets(left)+" && "+inBrackets(right), and, 1)
			ask(inBrackets(left)+" || "+inBrackets(right), or, 1)
		}
	}
}

// P6.2: a right operand that isn't reached is left alone whole, however great it is, and what stands behind it is evaluated.
func TestOperandsThatArentReached(t *testing.T) {
	for text, want := range map[string]bool{
		"false && (1 / 0 == 0 && a[9] < -a[x / 0]) || x == 1":      true,
		"true || (1 / 0 == 0 || a[9] < -a[x / 0]) && x == 1":       true,
		"(true || 1 / 0 == 0) && x == 2":                           false,
		"(false && 1 / 0 == 0) || x == 2":                          false,
		"(x == 2 && 1 / (x - 1) == 0) || (x == 1 || a[9] == 0)":    true,
		"!(false && a[a[9]] == 0) && !(true || 1 % 0 == 0)":        false,
		"(false && (true || 1 / 0 == 0)) || !(x < 1 && 1 / 0 < x)": true,
	} {
		p := mustText(t, "var x; array a[2]; assert "+text+"; x := 5;")
		wantBool(t, p, storeOf([]int64{1}, []int64{0, 0}), 3, want, -1)
	}
	p := mustText(t, "var x; assert (false && 1 / 0 == 0) || 1 / x == 0;")
	wantBool(t, p, storeOf([]int64{0}), 2, false, 2)
	wantBool(t, p, storeOf([]int64{2}), 2, true, -1)
	// The operand that isn't reached may be the last of the tree.
	p = mustText(t, "assert false && !!(1 / 0 == 0);")
	wantBool(t, p, api.Store{}, 1, false, -1)
}
