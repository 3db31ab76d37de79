package inv

import (
	"math/big"
	"math/rand"
	"slices"
	"sync"
	"testing"

	"winnow/api"
	"winnow/num"
	"winnow/word"
)

// A second saying of P14.1 and P14.2: the whole numbers are math/big's, and of package num there is what the chapter names.

func big1(v int64) *big.Int         { return big.NewInt(v) }
func less1(x, y *big.Int) bool      { return x.Cmp(y) < 0 }
func plus1(x, y *big.Int) *big.Int  { return new(big.Int).Add(x, y) }
func minus1(x, y *big.Int) *big.Int { return new(big.Int).Sub(x, y) }
func size1(v int64) *big.Int        { return new(big.Int).Abs(big1(v)) }

// range2 is a range, clipped.
func range2(lo, hi *big.Int) api.Num {
	if less1(lo, big1(minInt)) {
		lo = big1(minInt)
	}
	if less1(big1(maxInt), hi) {
		hi = big1(maxInt)
	}
	if less1(hi, lo) {
		return no()
	}
	return num.Make(api.Ival{Lo: lo.Int64(), Hi: hi.Int64()}, api.Cong{M: 1})
}

// meet2 is a and the range.
func meet2(a api.Num, lo, hi *big.Int) api.Num { return num.Meet(a, range2(lo, hi)) }

// answer2 is the answer of x and y.
func answer2(x, y api.Num) [2]api.Num {
	if x.Bot || y.Bot {
		return [2]api.Num{no(), no()}
	}
	return [2]api.Num{x, y}
}

func op2(op api.Op, a, b api.Num) api.Num {
	out, _ := num.Apply(op, a, b)
	return out
}

// ends2 are the least and the greatest product of an end of a with one of b.
func ends2(a, b api.Num) (*big.Int, *big.Int) {
	var list []*big.Int
	for _, x := range []int64{a.I.Lo, a.I.Hi} {
		for _, y := range []int64{b.I.Lo, b.I.Hi} {
			list = append(list, new(big.Int).Mul(big1(x), big1(y)))
		}
	}
	return slices.MinFunc(list, (*big.Int).Cmp), slices.MaxFunc(list, (*big.Int).Cmp)
}

func solve2(op api.Op, a, b, c api.Num) [2]api.Num {
	a, b, c = num.Norm(a), num.Norm(b), num.Norm(c)
	if a.Bot || c.Bot || op != api.OpNeg && b.Bot {
		return answer2(no(), no())
	}
	switch op {
	case api.OpNeg:
		return answer2(num.Meet(a, op2(api.OpNeg, c, no())), all())
	case api.OpAdd:
		return answer2(num.Meet(a, op2(api.OpSub, c, b)), num.Meet(b, op2(api.OpSub, c, a)))
	case api.OpSub:
		return answer2(num.Meet(a, op2(api.OpAdd, c, b)), num.Meet(b, op2(api.OpSub, a, c)))
	case api.OpMul:
		if !num.Has(c, 0) {
			a, b = num.NonZero(a), num.NonZero(b)
		}
		if a.Bot || b.Bot {
			return answer2(no(), no())
		}
		return answer2(factor2(a, b, c), factor2(b, a, c))
	}
	b = num.NonZero(b)
	if b.Bot {
		return answer2(no(), no())
	}
	if op == api.OpDiv {
		return answer2(dividend2(a, b, c), b)
	}
	return remainder2(a, b, c)
}

func factor2(a, b, c api.Num) api.Num {
	out := a
	if b.I.Lo == b.I.Hi && b.I.Lo&1 == 1 {
		turn := new(big.Int).Lsh(big1(1), 64)
		w := new(big.Int).ModInverse(new(big.Int).Mod(big1(b.I.Lo), turn), turn)
		out = num.Meet(out, op2(api.OpMul, c, one(int64(w.Uint64()))))
	}
	least, greatest := ends2(a, b)
	if least.IsInt64() && greatest.IsInt64() && !num.Has(b, 0) {
		out = num.Meet(out, op2(api.OpDiv, c, b))
	}
	return out
}

func dividend2(a, b, c api.Num) api.Num {
	if num.Has(a, minInt) && num.Has(b, -1) && num.Has(c, minInt) {
		return a
	}
	m := size1(b.I.Lo)
	if less1(m, size1(b.I.Hi)) {
		m = size1(b.I.Hi)
	}
	m = minus1(m, big1(1))
	least, greatest := ends2(c, b)
	return meet2(a, minus1(least, m), plus1(greatest, m))
}

func remainder2(a, b, c api.Num) [2]api.Num {
	k := big1(0)
	if c.I.Lo > 0 {
		k = big1(c.I.Lo)
		a = meet2(a, k, big1(maxInt))
	} else if c.I.Hi < 0 {
		k = size1(c.I.Hi)
		a = meet2(a, big1(minInt), big1(c.I.Hi))
	}
	if k.Sign() > 0 && b.I.Lo > 0 {
		b = meet2(b, plus1(k, big1(1)), big1(maxInt))
	} else if k.Sign() > 0 && b.I.Hi < 0 {
		b = meet2(b, big1(minInt), minus1(big1(-1), k))
	}
	if !b.Bot && b.I.Lo == b.I.Hi {
		g := size1(b.I.Lo)
		if c.C.M > 0 {
			g.GCD(nil, nil, g, new(big.Int).SetUint64(c.C.M))
		}
		rest := new(big.Int).Mod(big1(c.I.Lo), g)
		a = num.Meet(a, nu(minInt, maxInt, g.Uint64(), rest.Uint64()))
	}
	return answer2(a, b)
}

func compare2(op api.Op, a, b api.Num) [2]api.Num {
	a, b = num.Norm(a), num.Norm(b)
	if a.Bot || b.Bot {
		return answer2(no(), no())
	}
	step := big1(0)
	switch op {
	case api.OpGt, api.OpGe:
		changed := compare2(map[api.Op]api.Op{api.OpGt: api.OpLt, api.OpGe: api.OpLe}[op], b, a)
		return [2]api.Num{changed[1], changed[0]}
	case api.OpEq:
		return answer2(num.Meet(a, b), num.Meet(a, b))
	case api.OpNe:
		return answer2(without2(a, b), without2(b, a))
	case api.OpLt:
		step = big1(1)
	}
	return answer2(meet2(a, big1(minInt), minus1(big1(b.I.Hi), step)), meet2(b, plus1(big1(a.I.Lo), step), big1(maxInt)))
}

// without2 is a less b's one number at its ends.
func without2(a, b api.Num) api.Num {
	v := big1(b.I.Lo)
	if b.I.Lo != b.I.Hi || v.Cmp(big1(a.I.Lo)) != 0 && v.Cmp(big1(a.I.Hi)) != 0 {
		return a
	}
	// An end's number is taken away by going beyond it; both ends are one number, or they aren't.
	if a.I.Lo == a.I.Hi {
		return no()
	}
	if v.Cmp(big1(a.I.Lo)) == 0 {
		return meet2(a, plus1(v, big1(1)), big1(maxInt))
	}
	return meet2(a, big1(minInt), minus1(v, big1(1)))
}

// holdForms: both answers are in their normal form, and below what was handed in (each but Top).
func holdForms(t *testing.T, what string, got, handed [2]api.Num) {
	t.Helper()
	for i, x := range got {
		if x != num.Norm(x) || !num.Leq(x, handed[i]) {
			t.Fatalf("P14.4: %s of %v answers %v", what, handed, got)
		}
	}
}

// holdAll holds all calls of a, b and c against the second saying.
func holdAll(t *testing.T, a, b, c api.Num) {
	t.Helper()
	for _, op := range arithmetic() {
		left, right, code := Solve(op, a, b, c)
		got, handed := [2]api.Num{left, right}, [2]api.Num{a, b}
		if want := solve2(op, a, b, c); got != want || code != api.OK {
			t.Fatalf("P14.1: Solve(%d, %v, %v, %v) = %v, %d, want %v", op, a, b, c, got, code, want)
		}
		if op == api.OpNeg {
			handed[1] = all()
		}
		holdForms(t, "Solve", got, handed)
	}
	for _, op := range comparisons() {
		left, right, code := Compare(op, a, b)
		got := [2]api.Num{left, right}
		if want := compare2(op, a, b); got != want || code != api.OK {
			t.Fatalf("P14.2: Compare(%d, %v, %v) = %v, %d, want %v", op, a, b, got, code, want)
		}
		holdForms(t, "Compare", got, [2]api.Num{a, b})
	}
}

// resultOf is what word gives; false: there is no result.
func resultOf(op api.Op, x, y int64) (int64, bool) {
	switch op {
	case api.OpNeg:
		return word.Neg(x), true
	case api.OpAdd:
		return word.Add(x, y), true
	case api.OpSub:
		return word.Sub(x, y), true
	case api.OpMul:
		return word.Mul(x, y), true
	case api.OpDiv:
		return word.Div(x, y)
	}
	return word.Rem(x, y)
}

// holds tells whether a comparison holds.
func holds(op api.Op, x, y int64) bool {
	switch op {
	case api.OpLt:
		return x < y
	case api.OpLe:
		return x <= y
	case api.OpGt:
		return x > y
	case api.OpGe:
		return x >= y
	case api.OpEq:
		return x == y
	}
	return x != y
}

// holdKept: x and y, numbers of a and b, are kept, whatever their result is a number of.
func holdKept(t *testing.T, a, b api.Num, x, y int64, around func(v int64) api.Num) {
	t.Helper()
	for _, op := range arithmetic() {
		v, ok := resultOf(op, x, y)
		if !ok {
			continue
		}
		c := around(v)
		left, right, _ := Solve(op, a, b, c)
		if !num.Has(left, x) || !num.Has(right, y) {
			t.Fatalf("P14.4: Solve(%d, %v, %v, %v) = %v, %v; of %d and %d it is %d", op, a, b, c, left, right, x, y, v)
		}
	}
	for _, op := range comparisons() {
		left, right, _ := Compare(op, a, b)
		if holds(op, x, y) && (!num.Has(left, x) || !num.Has(right, y)) {
			t.Fatalf("P14.4: Compare(%d, %v, %v) = %v, %v, without %d and %d", op, a, b, left, right, x, y)
		}
	}
}

// ends are numbers around which a call changes its ways.
func ends() []int64 {
	return []int64{minInt, minInt + 1, minInt + 2, -fourth - 1, -fourth, -7, -2, -1, 0, 1, 2, 3, 7, 12, fourth - 1, fourth, maxInt - 1, maxInt}
}

func moduli() []uint64 {
	return []uint64{0, 1, 2, 3, 4, 6, 12, 1 << 32, 1 << 62, half - 1, half, half + 1, 3 << 62, last - 1, last}
}

// numberByChance is small, near a power of two, near an end, or of any size.
func numberByChance(m *rand.Rand) int64 {
	switch m.Intn(4) {
	case 0:
		return int64(m.Intn(41) - 20)
	case 1:
		return 1<<m.Intn(64) + int64(m.Intn(7)-3)
	case 2:
		return ends()[m.Intn(len(ends()))]
	}
	return int64(m.Uint64()) >> m.Intn(64)
}

// around is some Num that has v, in its normal form or not.
func around(m *rand.Rand, v int64) api.Num {
	lo, hi := min(v, numberByChance(m)), max(v, numberByChance(m))
	switch m.Intn(5) {
	case 0:
		lo, hi = v, v
	case 1:
		lo, hi = max(lo, v-min(3, v-lo)), v
	}
	step := moduli()[m.Intn(len(moduli()))]
	switch m.Intn(4) {
	case 0:
		step = uint64(1 + m.Intn(12))
	case 1:
		step = 1
	}
	rest := word.Mod(v, step)
	if step > 0 && m.Intn(3) == 0 {
		rest += (last - rest) / step / 2 * step
	}
	return nu(lo, hi, step, rest)
}

// numByChance is a Num as it may be handed in.
func numByChance(m *rand.Rand) api.Num {
	a := around(m, numberByChance(m))
	switch m.Intn(24) {
	case 0:
		a.Bot = true
	case 1:
		a.I.Lo, a.I.Hi = a.I.Hi, a.I.Lo
	case 2:
		a.C.R = uint64(numberByChance(m))
	}
	return a
}

// P14.1, P14.2: Nums of one number and of more at the ends, each with each.
func TestEnds(t *testing.T) {
	var list []api.Num
	for _, v := range ends() {
		list = append(list, one(v))
	}
	for i := range ends() {
		list = append(list, in(ends()[i/2], ends()[i]), in(ends()[i], ends()[(i+len(ends()))/2]))
	}
	list = append(list, nu(minInt, 0, half, 0), nu(minInt, maxInt, last, half-1), nu(minInt, maxInt, 4, 0), nu(-9, 9, 6, 3))
	for i, a := range list {
		for j, b := range list {
			for k, c := range list {
				if (i+j+k)%5 == 0 {
					holdAll(t, a, b, c)
				}
			}
		}
	}
}

func TestByChance(t *testing.T) {
	m := rand.New(rand.NewSource(141))
	for range 60000 {
		holdAll(t, numByChance(m), numByChance(m), numByChance(m))
	}
}

// P14.4: nothing is lost of Nums of any size.
func TestKeptByChance(t *testing.T) {
	m := rand.New(rand.NewSource(142))
	for range 9000 {
		x, y := numberByChance(m), numberByChance(m)
		a, b := around(m, x), around(m, y)
		holdKept(t, a, b, x, y, func(v int64) api.Num {
			c := around(m, v)
			holdAll(t, a, b, c)
			return c
		})
	}
}

// Calls at the same time have nothing to do with one another.
func TestCallsAtTheSameTime(t *testing.T) {
	var group sync.WaitGroup
	for range 8 {
		group.Go(func() {
			for range 200 {
				if left, right, _ := Solve(api.OpRem, in(0, 9), in(1, 5), one(4)); left != nu(4, 9, 5, 4) || right != one(5) {
					t.Errorf("P14.1: Solve = %v, %v", left, right)
				}
				if left, right, _ := Compare(api.OpGt, in(0, 9), in(5, 20)); left != in(6, 9) || right != in(5, 8) {
					t.Errorf("P14.2: Compare = %v, %v", left, right)
				}
			}
		})
	}
	group.Wait()
}

func FuzzAll(f *testing.F) {
	f.Add(int64(0), int64(9), uint64(3), uint64(7), int64(minInt), int64(maxInt), last, half-1, int64(-3), int64(3), uint64(2), uint64(1))
	f.Add(int64(minInt), int64(5), uint64(1), uint64(0), int64(-1), int64(0), uint64(0), last, int64(minInt), int64(minInt), uint64(1), uint64(0))
	f.Fuzz(func(t *testing.T, alo, ahi int64, am, ar uint64, blo, bhi int64, bm, br uint64, clo, chi int64, cm, cr uint64) {
		a, b, c := nu(alo, ahi, am, ar), nu(blo, bhi, bm, br), nu(clo, chi, cm, cr)
		holdAll(t, a, b, c)
		if a, b := num.Norm(a), num.Norm(b); !a.Bot && !b.Bot {
			for _, x := range []int64{a.I.Lo, a.I.Hi} {
				for _, y := range []int64{b.I.Lo, b.I.Hi} {
					holdKept(t, a, b, x, y, func(v int64) api.Num { return num.Join(c, one(v)) })
				}
			}
		}
	})
}
