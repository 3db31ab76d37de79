package num

import (
	"math/big"
	"math/rand"
	"slices"
	"testing"

	"winnow/api"
	"winnow/cong"
	"winnow/ival"
)

// A second saying of the chapter's words: a Num is a row of whole numbers, and these are math/big's.

func whole(v int64) *big.Int     { return big.NewInt(v) }
func wholeU(v uint64) *big.Int   { return new(big.Int).SetUint64(v) }
func sum(x, y *big.Int) *big.Int { return new(big.Int).Add(x, y) }
func dif(x, y *big.Int) *big.Int { return new(big.Int).Sub(x, y) }
func pro(x, y *big.Int) *big.Int { return new(big.Int).Mul(x, y) }
func mod(x, m *big.Int) *big.Int { return new(big.Int).Mod(x, m) }

// row is the whole numbers lo, lo + step up to hi; none, if lo is nil. Of one number the step is 0.
type row struct{ lo, hi, step *big.Int }

func rowOf(lo, hi, step *big.Int) row {
	switch lo.Cmp(hi) {
	case 1:
		return row{}
	case 0:
		return row{lo, hi, whole(0)}
	}
	return row{lo, hi, step}
}

// numbersOf are the numbers of an interval and a class.
func numbersOf(i api.Ival, c api.Cong) row {
	lo, hi, r, m := whole(i.Lo), whole(i.Hi), wholeU(c.R), wholeU(c.M)
	if c.M == 0 {
		r = whole(int64(c.R))
		if r.Cmp(lo) < 0 || r.Cmp(hi) > 0 {
			return row{}
		}
		return rowOf(r, r, m)
	}
	return rowOf(sum(lo, mod(dif(r, lo), m)), dif(hi, mod(dif(hi, r), m)), m)
}

func numbers2(a api.Num) row {
	if a.Bot {
		return row{}
	}
	return numbersOf(a.I, a.C)
}

func (n row) none() bool { return n.lo == nil }

func (n row) has(x *big.Int) bool {
	if n.none() || x.Cmp(n.lo) < 0 || x.Cmp(n.hi) > 0 {
		return false
	}
	return n.step.Sign() == 0 || mod(dif(x, n.lo), n.step).Sign() == 0
}

// form is the row's normal form.
func (n row) form() api.Num {
	switch {
	case n.none():
		return no()
	case n.step.Sign() == 0:
		return one(n.lo.Int64())
	}
	return nu(n.lo.Int64(), n.hi.Int64(), n.step.Uint64(), mod(n.lo, n.step).Uint64())
}

// count is how many numbers there are.
func (n row) count() *big.Int {
	switch {
	case n.none():
		return whole(0)
	case n.step.Sign() == 0:
		return whole(1)
	}
	return sum(whole(1), new(big.Int).Quo(dif(n.hi, n.lo), n.step))
}

// common is what two rows have in common, by Euclid's numbers.
func common(n, k row) row {
	if n.none() || k.none() {
		return row{}
	}
	for _, p := range [][2]row{{n, k}, {k, n}} {
		if p[0].step.Sign() == 0 {
			if p[1].has(p[0].lo) {
				return p[0]
			}
			return row{}
		}
	}
	u := new(big.Int)
	g := new(big.Int).GCD(u, nil, n.step, k.step)
	apart := dif(k.lo, n.lo)
	if mod(apart, g).Sign() != 0 {
		return row{}
	}
	step := pro(n.step, new(big.Int).Quo(k.step, g))
	at := sum(n.lo, pro(pro(n.step, u), new(big.Int).Quo(apart, g)))
	lo, hi := n.lo, n.hi
	if k.lo.Cmp(lo) > 0 {
		lo = k.lo
	}
	if k.hi.Cmp(hi) < 0 {
		hi = k.hi
	}
	return rowOf(sum(lo, mod(dif(at, lo), step)), dif(hi, mod(dif(hi, at), step)), step)
}

// hull is the least row that has all of both.
func hull(n, k row) row {
	switch {
	case n.none():
		return k
	case k.none():
		return n
	}
	lo, hi := n.lo, n.hi
	if k.lo.Cmp(lo) < 0 {
		lo = k.lo
	}
	if k.hi.Cmp(hi) > 0 {
		hi = k.hi
	}
	step := new(big.Int).GCD(nil, nil, n.step, k.step)
	step.GCD(nil, nil, step, new(big.Int).Abs(dif(n.lo, k.lo)))
	return rowOf(lo, hi, step)
}

// widen2 is Widen, to the letter of P13.3.
func widen2(n, k row, thresholds []int64) row {
	switch {
	case n.none():
		return k
	case k.none():
		return n
	}
	a, b := n.form(), k.form()
	sorted := slices.Sorted(slices.Values(thresholds))
	i := a.I
	if b.I.Lo < i.Lo {
		i.Lo = minInt
		for _, t := range sorted {
			if t <= b.I.Lo {
				i.Lo = t
			}
		}
	}
	if b.I.Hi > i.Hi {
		i.Hi = maxInt
		for _, t := range slices.Backward(sorted) {
			if t >= b.I.Hi {
				i.Hi = t
			}
		}
	}
	if cong.Leq(b.C, a.C) {
		return numbersOf(i, a.C)
	}
	return numbersOf(i, cl(1, 0))
}

// nonZero2 is NonZero, told by the row.
func nonZero2(n row) row {
	switch {
	case n.none():
		return n
	case n.lo.Sign() == 0 && n.hi.Sign() == 0:
		return row{}
	case n.lo.Sign() == 0:
		return rowOf(n.step, n.hi, n.step)
	case n.hi.Sign() == 0:
		return rowOf(n.lo, dif(n.hi, n.step), n.step)
	}
	return n
}

// apply2 is Apply, to the letter of P13.5: by what ival and cong answer.
func apply2(op api.Op, n, k row) api.Num {
	if op == api.OpDiv || op == api.OpRem {
		k = nonZero2(k)
	}
	if op == api.OpNeg {
		k = n
	}
	if n.none() || k.none() {
		return no()
	}
	a, b := n.form(), k.form()
	var i api.Ival
	var c api.Cong
	var exact bool
	switch op {
	case api.OpNeg:
		i, exact = ival.Neg(a.I)
		c = cong.Neg(a.C, exact)
	case api.OpAdd:
		i, exact = ival.Add(a.I, b.I)
		c = cong.Add(a.C, b.C, exact)
	case api.OpSub:
		i, exact = ival.Sub(a.I, b.I)
		c = cong.Sub(a.C, b.C, exact)
	case api.OpMul:
		i, exact = ival.Mul(a.I, b.I)
		c = cong.Mul(a.C, b.C, exact)
	case api.OpDiv:
		i, _ = ival.Div(a.I, b.I)
		c = cong.Div(a.C, b.C)
	case api.OpRem:
		i, _ = ival.Rem(a.I, b.I)
		c = cong.Rem(a.C, b.C)
	}
	return numbersOf(i, c).form()
}

// in2 tells whether v is in c.
func in2(c api.Cong, v int64) bool { return numbersOf(iv(minInt, maxInt), c).has(whole(v)) }

// holdPair holds all calls of a and b against the second saying.
func holdPair(t *testing.T, a, b api.Num, thresholds []int64) {
	t.Helper()
	n, k := numbers2(a), numbers2(b)
	both := common(n, k)
	if got := Norm(a); got != n.form() {
		t.Fatalf("P13.1: Norm(%v) = %v, want %v", a, got, n.form())
	}
	if got := Make(a.I, a.C); got != numbersOf(a.I, a.C).form() {
		t.Fatalf("P13.1: Make(%v, %v) = %v", a.I, a.C, got)
	}
	if got, want := Leq(a, b), both.count().Cmp(n.count()) == 0; got != want {
		t.Fatalf("P13.2: Leq(%v, %v) = %v", a, b, got)
	}
	if got := Meet(a, b); got != both.form() {
		t.Fatalf("P13.2: Meet(%v, %v) = %v, want %v", a, b, got, both.form())
	}
	if got, want := Join(a, b), hull(n, k).form(); got != want || !Leq(a, got) || !Leq(b, got) {
		t.Fatalf("P13.2: Join(%v, %v) = %v, want %v", a, b, got, want)
	}
	if got, want := Widen(a, b, thresholds), widen2(n, k, thresholds).form(); got != want || !Leq(a, got) || !Leq(b, got) {
		t.Fatalf("P13.3: Widen(%v, %v, %v) = %v, want %v", a, b, thresholds, got, want)
	}
	if got, want := NonZero(a), nonZero2(n).form(); got != want {
		t.Fatalf("P13.4: NonZero(%v) = %v, want %v", a, got, want)
	}
	for _, op := range operators() {
		if got, code := Apply(op, a, b); got != apply2(op, n, k) || code != api.OK {
			t.Fatalf("P13.5: Apply(%d, %v, %v) = %v, %d, want %v", op, a, b, got, code, apply2(op, n, k))
		}
	}
}

// some are numbers of a: its ends, those beside them, and around 0.
func some(a api.Num) []int64 {
	n := numbers2(a)
	if n.none() {
		return nil
	}
	middle := sum(n.lo, whole(0))
	if n.step.Sign() != 0 && n.lo.Sign() < 0 && n.hi.Sign() > 0 {
		middle = dif(whole(0), mod(dif(whole(0), n.lo), n.step))
	}
	var out []int64
	for _, x := range []*big.Int{n.lo, sum(n.lo, n.step), dif(n.hi, n.step), n.hi, middle, sum(middle, n.step)} {
		if n.has(x) && !slices.Contains(out, x.Int64()) {
			out = append(out, x.Int64())
		}
	}
	return out
}

// holdNumbers: Has tells numbers of a and those beside them, and the answers of Apply have their results.
func holdNumbers(t *testing.T, a, b api.Num) {
	t.Helper()
	xs, ys := some(a), some(b)
	for _, x := range append(append([]int64{minInt, -1, 0, 1, maxInt}, xs...), ys...) {
		for _, v := range []int64{x - 1, x, x + 1} {
			if got, want := Has(a, v), numbers2(a).has(whole(v)); got != want {
				t.Fatalf("P13.2: Has(%v, %d) = %v", a, v, got)
			}
		}
	}
	for _, op := range operators() {
		answer, _ := Apply(op, a, b)
		for _, x := range xs {
			for _, y := range ys {
				v, ok := resultOf(op, x, y)
				if ok && !numbers2(answer).has(whole(v)) {
					t.Fatalf("P13.5: Apply(%d, %v, %v) = %v; of %d and %d it is %d", op, a, b, answer, x, y, v)
				}
				alone, _ := Apply(op, one(x), one(y))
				if ok && alone != one(v) || !ok && alone != no() {
					t.Fatalf("P13.5: Apply(%d) of %d and %d alone is %v", op, x, y, alone)
				}
			}
		}
	}
}

// moduli are Ms around which a call changes its ways.
func moduli() []uint64 {
	return []uint64{0, 1, 2, 3, 4, 6, 12, 1 << 32, 1 << 62, half - 1, half, half + 1, 3 << 62, last - 1, last}
}

// ends are numbers around which a call changes its ways.
func ends() []int64 {
	return []int64{minInt, minInt + 1, minInt + 2, -1 << 62, -7, -2, -1, 0, 1, 2, 7, 12, 1 << 62, maxInt - 1, maxInt}
}

// edges are Nums of these, in their normal form or not.
func edges() []api.Num {
	m := rand.New(rand.NewSource(131))
	out := []api.Num{no(), top(), {}, {Bot: true, I: iv(0, 3), C: cl(2, 1)}}
	for _, mod := range moduli() {
		for range 24 {
			lo, hi := ends()[m.Intn(len(ends()))], ends()[m.Intn(len(ends()))]
			if lo > hi && m.Intn(4) > 0 {
				lo, hi = hi, lo
			}
			r := []uint64{0, 1, 2, mod / 2, mod - 1, mod, mod + 1, half - 1, half, last}[m.Intn(10)]
			out = append(out, nu(lo, hi, mod, r))
		}
	}
	for _, v := range ends() {
		out = append(out, one(v), nu(v, v, 1, 0), nu(minInt, maxInt, 0, uint64(v)))
	}
	return out
}

// P13.1 to P13.5: Nums of any size, each with each.
func TestEdges(t *testing.T) {
	list := edges()
	m := rand.New(rand.NewSource(132))
	for i, a := range list {
		for j, b := range list {
			holdPair(t, a, b, thresholdsByChance(m))
			if (i+j)%5 == 0 {
				holdNumbers(t, a, b)
			}
		}
	}
}

// numberByChance is small, near a power of two, near an end, or of any size.
func numberByChance(m *rand.Rand) int64 {
	switch m.Intn(4) {
	case 0:
		return int64(m.Intn(41) - 20)
	case 1:
		return 1<<m.Intn(64) + int64(m.Intn(7)-3)
	case 2:
		return ends()[m.Intn(len(ends()))]
	}
	return int64(m.Uint64()) >> m.Intn(64)
}

// numByChance is a Num as it may be handed in.
func numByChance(m *rand.Rand) api.Num {
	lo, hi := numberByChance(m), numberByChance(m)
	if lo > hi && m.Intn(8) > 0 {
		lo, hi = hi, lo
	}
	c := cl(uint64(numberByChance(m)), uint64(numberByChance(m)))
	switch m.Intn(6) {
	case 0:
		c = cl(0, uint64(lo))
	case 1:
		c = cl(1, 0)
	case 2:
		c = cl(moduli()[m.Intn(len(moduli()))], c.R)
	case 3:
		// one class is the other one's multiple oftener so
		c = cl(1<<m.Intn(6)*[]uint64{1, 3, 9}[m.Intn(3)], uint64(m.Intn(40)))
	}
	return api.Num{Bot: m.Intn(20) == 0, I: iv(lo, hi), C: c}
}

func thresholdsByChance(m *rand.Rand) []int64 {
	var out []int64
	for range m.Intn(7) {
		out = append(out, numberByChance(m))
	}
	if len(out) > 1 && m.Intn(3) == 0 {
		out[0] = out[len(out)-1]
	}
	return out
}

func TestByChance(t *testing.T) {
	m := rand.New(rand.NewSource(133))
	for range 25000 {
		a, b := numByChance(m), numByChance(m)
		holdPair(t, a, b, thresholdsByChance(m))
		holdNumbers(t, a, b)
	}
}

// P13.2: Join is below every Num that has all of both, of any size.
func TestJoinIsTheLeast(t *testing.T) {
	m := rand.New(rand.NewSource(134))
	above := 0
	for range 60000 {
		a, b, c := numByChance(m), numByChance(m), numByChance(m)
		if m.Intn(2) == 0 {
			c = Join(c, Join(a, b))
		}
		if Leq(a, c) && Leq(b, c) {
			above++
			if !Leq(Join(a, b), c) {
				t.Fatalf("P13.2: Join(%v, %v) isn't below %v", a, b, c)
			}
		}
	}
	if above < 1000 {
		t.Fatalf("only %d were above both", above)
	}
}

func FuzzAll(f *testing.F) {
	f.Add(false, int64(0), int64(9), uint64(3), uint64(7), false, int64(minInt), int64(maxInt), last, half-1, int64(4))
	f.Add(true, int64(0), int64(9), uint64(3), uint64(7), false, int64(-4), int64(4), uint64(4), uint64(0), int64(-5))
	f.Fuzz(func(t *testing.T, abot bool, alo, ahi int64, am, ar uint64, bbot bool, blo, bhi int64, bm, br uint64, threshold int64) {
		a := api.Num{Bot: abot, I: iv(alo, ahi), C: cl(am, ar)}
		b := api.Num{Bot: bbot, I: iv(blo, bhi), C: cl(bm, br)}
		holdPair(t, a, b, []int64{threshold, 0})
		holdNumbers(t, a, b)
	})
}
