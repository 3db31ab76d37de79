package cong

import (
	"math/big"
	"math/rand"
	"testing"

	"winnow/api"
	"winnow/word"
)

// A second saying of the chapter's words: whole numbers are math/big's.

func whole(v int64) *big.Int     { return big.NewInt(v) }
func wholeU(v uint64) *big.Int   { return new(big.Int).SetUint64(v) }
func turn() *big.Int             { return new(big.Int).Lsh(whole(1), 64) }
func sum(x, y *big.Int) *big.Int { return new(big.Int).Add(x, y) }
func dif(x, y *big.Int) *big.Int { return new(big.Int).Sub(x, y) }
func pro(x, y *big.Int) *big.Int { return new(big.Int).Mul(x, y) }

// mod is from 0 to m - 1.
func mod(x, m *big.Int) *big.Int { return new(big.Int).Mod(x, m) }

// r is r(c).
func r(c api.Cong) *big.Int {
	if c.M == 0 {
		return whole(int64(c.R))
	}
	return mod(wholeU(c.R), wholeU(c.M))
}

// in tells whether a whole number is in c.
func in(c api.Cong, x *big.Int) bool {
	if c.M == 0 {
		return x.Cmp(r(c)) == 0
	}
	return mod(dif(x, r(c)), wholeU(c.M)).Sign() == 0
}

// below2 is Leq: two numbers of c beside one another tell of all.
func below2(c, d api.Cong) bool {
	return in(d, r(c)) && in(d, sum(r(c), wholeU(c.M)))
}

func gcdOf(numbers ...*big.Int) *big.Int {
	out := new(big.Int)
	for _, n := range numbers {
		out.GCD(nil, nil, out, new(big.Int).Abs(n))
	}
	return out
}

// by is the class of x by g, which is below 2^64.
func by(x, g *big.Int) api.Cong {
	if g.Sign() == 0 {
		return cl(0, mod(x, turn()).Uint64())
	}
	return cl(g.Uint64(), mod(x, g).Uint64())
}

// twoOf is Two(g).
func twoOf(g *big.Int) *big.Int {
	out := whole(1)
	for range 63 {
		next := new(big.Int).Lsh(out, 1)
		if mod(g, next).Sign() != 0 {
			break
		}
		out = next
	}
	return out
}

func join2(c, d api.Cong) api.Cong {
	return by(r(c), gcdOf(wholeU(c.M), wholeU(d.M), dif(r(c), r(d))))
}

func meet2(c, d api.Cong) (api.Cong, bool) {
	if c.M == 0 || d.M == 0 {
		one, other := c, d
		if c.M != 0 {
			one, other = d, c
		}
		if in(other, r(one)) {
			return one, true
		}
		return cl(0, 0), false
	}
	m, n := wholeU(c.M), wholeU(d.M)
	u := new(big.Int)
	g := new(big.Int).GCD(u, nil, m, n)
	apart := dif(r(d), r(c))
	if mod(apart, g).Sign() != 0 {
		return cl(0, 0), false
	}
	multiple := pro(m, new(big.Int).Quo(n, g))
	x := mod(sum(r(c), pro(pro(m, u), new(big.Int).Quo(apart, g))), multiple)
	if multiple.IsUint64() {
		return cl(multiple.Uint64(), x.Uint64()), true
	}
	for _, at := range []*big.Int{x, dif(x, multiple)} {
		if at.IsInt64() {
			return Const(at.Int64()), true
		}
	}
	return cl(0, 0), false
}

// next2 is Up, or Down.
func next2(up bool, c api.Cong, v int64) (int64, bool) {
	x := r(c)
	if c.M != 0 && up {
		x = sum(whole(v), mod(dif(r(c), whole(v)), wholeU(c.M)))
	}
	if c.M != 0 && !up {
		x = dif(whole(v), mod(dif(whole(v), r(c)), wholeU(c.M)))
	}
	if !x.IsInt64() || up && x.Cmp(whole(v)) < 0 || !up && x.Cmp(whole(v)) > 0 {
		return 0, false
	}
	return x.Int64(), true
}

// onWords is an operation's result as word gives it; false: there is none.
func onWords(name string, x, y int64) (int64, bool) {
	switch name {
	case "Neg":
		return word.Neg(x), true
	case "Add":
		return word.Add(x, y), true
	case "Sub":
		return word.Sub(x, y), true
	case "Mul":
		return word.Mul(x, y), true
	case "Div":
		return word.Div(x, y)
	}
	return word.Rem(x, y)
}

// wraps tells whether a result is no number as a whole one.
func wraps(name string, x, y int64) bool {
	switch name {
	case "Neg":
		return x == minInt
	case "Add":
		return !sum(whole(x), whole(y)).IsInt64()
	case "Sub":
		return !dif(whole(x), whole(y)).IsInt64()
	case "Mul":
		return !pro(whole(x), whole(y)).IsInt64()
	}
	return false
}

// step2 is the class of x by g, or by Two(g).
func step2(x, g *big.Int, exact bool) api.Cong {
	if exact && g.IsUint64() {
		return by(x, g)
	}
	return by(x, twoOf(g))
}

// secondSaying is what an operation must answer, to the letter of P12.5.
func secondSaying(name string, c, d api.Cong, exact bool) api.Cong {
	m, n := wholeU(c.M), wholeU(d.M)
	if c.M == 0 && (d.M == 0 || name == "Neg") {
		v, ok := onWords(name, int64(c.R), int64(d.R))
		if !ok {
			return cl(1, 0)
		}
		return Const(v)
	}
	switch name {
	case "Neg":
		return step2(dif(whole(0), r(c)), m, exact)
	case "Add":
		return step2(sum(r(c), r(d)), gcdOf(m, n), exact)
	case "Sub":
		return step2(dif(r(c), r(d)), gcdOf(m, n), exact)
	case "Mul":
		if c == cl(0, 0) || d == cl(0, 0) {
			return cl(0, 0)
		}
		return step2(pro(r(c), r(d)), gcdOf(pro(m, n), pro(r(c), n), pro(r(d), m)), exact)
	case "Div":
		k := r(d)
		if d.M != 0 || k.Sign() == 0 || k.Cmp(whole(-1)) == 0 || new(big.Int).Rem(m, k).Sign() != 0 || new(big.Int).Rem(r(c), k).Sign() != 0 {
			return cl(1, 0)
		}
		return by(new(big.Int).Quo(r(c), k), new(big.Int).Abs(new(big.Int).Quo(m, k)))
	}
	if d == cl(0, 0) {
		return cl(1, 0)
	}
	return by(r(c), gcdOf(m, n, r(d)))
}

// written tells whether a class is as it must be written.
func written(c api.Cong) bool { return c.M == 0 || c.R < c.M }

func holdSets(t *testing.T, c, d api.Cong) {
	t.Helper()
	if got, want := Norm(c), by(r(c), wholeU(c.M)); got != want {
		t.Fatalf("P12.1: Norm(%v) = %v, want %v", c, got, want)
	}
	if got, want := Leq(c, d), below2(c, d); got != want {
		t.Fatalf("P12.1: Leq(%v, %v) = %v", c, d, got)
	}
	if got, want := Join(c, d), join2(c, d); got != want || !written(got) || !Leq(c, got) || !Leq(d, got) {
		t.Fatalf("P12.2: Join(%v, %v) = %v, want %v", c, d, got, want)
	}
	want, ok := meet2(c, d)
	if got, is := Meet(c, d); got != want || is != ok || !written(got) || is && (!Leq(got, c) || !Leq(got, d)) {
		t.Fatalf("P12.3: Meet(%v, %v) = %v, %v, want %v, %v", c, d, got, is, want, ok)
	}
}

func holdNumber(t *testing.T, c api.Cong, v int64) {
	t.Helper()
	if got, want := Has(c, v), in(c, whole(v)); got != want {
		t.Fatalf("P12.1: Has(%v, %d) = %v", c, v, got)
	}
	want, ok := next2(true, c, v)
	if got, is := Up(c, v); got != want || is != ok {
		t.Fatalf("P12.4: Up(%v, %d) = %d, %v, want %d, %v", c, v, got, is, want, ok)
	}
	want, ok = next2(false, c, v)
	if got, is := Down(c, v); got != want || is != ok {
		t.Fatalf("P12.4: Down(%v, %d) = %d, %v, want %d, %v", c, v, got, is, want, ok)
	}
}

func holdOperations(t *testing.T, c, d api.Cong) {
	t.Helper()
	for _, o := range operations() {
		for _, exact := range []bool{true, false} {
			if got, want := o.call(c, d, exact), secondSaying(o.name, c, d, exact); got != want || !written(got) {
				t.Fatalf("P12.5: %s(%v, %v, %v) = %v, want %v", o.name, c, d, exact, got, want)
			}
		}
	}
}

// holdResults: the answers hold the result of a number of c and one of d.
func holdResults(t *testing.T, c, d api.Cong, x, y int64) {
	t.Helper()
	for _, o := range operations() {
		v, ok := onWords(o.name, x, y)
		if !ok {
			continue
		}
		if got := o.call(c, d, false); !Has(got, v) {
			t.Fatalf("P12.6: %s(%v, %v, false) = %v; of %d and %d it is %d", o.name, c, d, got, x, y, v)
		}
		if got := o.call(c, d, true); !wraps(o.name, x, y) && !Has(got, v) {
			t.Fatalf("P12.6: %s(%v, %v, true) = %v; of %d and %d it is %d", o.name, c, d, got, x, y, v)
		}
	}
}

// moduli are Ms around which a call changes its ways.
func moduli() []uint64 {
	return []uint64{0, 1, 2, 3, 4, 6, 7, 12, fermatSmall, 1<<32 - 1, 1 << 32, 1<<32 + 1, 3 << 31, fermatGreat, 1 << 62, 6148914691236517205, half - 1, half, half + 1, half + 2, 3 << 62, last - 2, last - 1, last}
}

// numbers are those around which a call changes its ways.
func numbers() []int64 {
	return []int64{minInt, minInt + 1, minInt + 2, -1 << 62, -1 << 32, -fermatSmall, -12, -7, -3, -2, -1, 0, 1, 2, 3, 4, 6, 12, fermatSmall, 1 << 31, 1 << 32, 1 << 62, maxInt - 1, maxInt}
}

// edges are classes of these, R at and beside both its ends, and as it mustn't be written.
func edges() []api.Cong {
	var out []api.Cong
	for _, m := range moduli() {
		if m == 0 {
			continue
		}
		for _, r := range []uint64{0, 1, 2, m / 3, m / 2, m - 2, m - 1, m, m + 1, half, last} {
			out = append(out, cl(m, r))
		}
	}
	for _, v := range numbers() {
		out = append(out, Const(v))
	}
	return out
}

// P12.1 to P12.5: classes of any size, each with each.
func TestEdges(t *testing.T) {
	list := edges()
	for _, c := range list {
		for _, v := range numbers() {
			holdNumber(t, c, v)
		}
		for _, d := range list {
			holdSets(t, c, d)
			holdOperations(t, c, d)
		}
	}
}

// bitsByChance are a number's: small, near a power of two, with many factors, or of any size.
func bitsByChance(m *rand.Rand) uint64 {
	switch m.Intn(5) {
	case 0:
		return uint64(m.Intn(20))
	case 1:
		return 1<<m.Intn(64) + uint64(m.Intn(7)) - 3
	case 2:
		x := uint64(1)
		for _, p := range []uint64{2, 2, 2, 3, 3, 5, 7, 11, 65537} {
			for range m.Intn(6) {
				if x < last/p {
					x *= p
				}
			}
		}
		return x
	case 3:
		list := moduli()
		return list[m.Intn(len(list))]
	}
	return m.Uint64() >> m.Intn(64)
}

// class is one by chance: one number in three has a sign and stands alone.
func class(m *rand.Rand) api.Cong {
	if m.Intn(3) == 0 {
		v := bitsByChance(m)
		if m.Intn(2) == 0 {
			v = -v
		}
		return cl(0, v)
	}
	c := cl(bitsByChance(m), bitsByChance(m))
	if m.Intn(2) == 0 {
		return Norm(c)
	}
	return c
}

// related is a class that has more to do with c than chance gives: a part of the Ms in common, or a number.
func related(m *rand.Rand, c api.Cong) api.Cong {
	switch m.Intn(4) {
	case 0:
		return cl(c.M, bitsByChance(m))
	case 1:
		return cl(word.Gcd(c.M, bitsByChance(m)), c.R)
	case 2:
		return cl(bitsByChance(m), c.R)
	}
	return class(m)
}

// inside is a number of c by chance; false: it has none from MinInt to MaxInt.
func inside(m *rand.Rand, c api.Cong) (int64, bool) {
	at := int64(bitsByChance(m))
	for _, v := range []int64{at, -at, minInt} {
		if up, ok := Up(c, v); ok {
			return up, true
		}
	}
	return 0, false
}

// P12.1 to P12.6: by chance.
func TestByChance(t *testing.T) {
	m := rand.New(rand.NewSource(126))
	for range 60000 {
		c := class(m)
		d := related(m, c)
		holdSets(t, c, d)
		holdSets(t, d, c)
		holdNumber(t, c, int64(bitsByChance(m)))
		holdOperations(t, c, d)
		x, has := inside(m, c)
		y, too := inside(m, d)
		if has && too {
			holdResults(t, c, d, x, y)
			holdResults(t, d, c, y, x)
		}
	}
}

// P12.6: Join is below every class that is above both.
func TestJoinIsTheLeast(t *testing.T) {
	m := rand.New(rand.NewSource(1260))
	above := 0
	for range 60000 {
		c := class(m)
		d := related(m, c)
		e := related(m, Join(c, d))
		if !Leq(c, e) || !Leq(d, e) {
			continue
		}
		above++
		if join := Join(c, d); !Leq(join, e) {
			t.Fatalf("P12.6: Join(%v, %v) = %v isn't below %v, which is above both", c, d, join, e)
		}
	}
	if above < 5000 {
		t.Fatalf("too few classes above both: %d", above)
	}
}

func FuzzAll(f *testing.F) {
	f.Add(uint64(6), uint64(1), uint64(4), uint64(2), int64(0))
	f.Add(uint64(last), uint64(0), uint64(half), uint64(1), int64(minInt))
	f.Add(uint64(0), uint64(half), uint64(0), uint64(last), int64(maxInt))
	f.Fuzz(func(t *testing.T, m, r, n, s uint64, v int64) {
		c, d := cl(m, r), cl(n, s)
		holdSets(t, c, d)
		holdNumber(t, c, v)
		holdOperations(t, c, d)
		x, has := Up(c, v)
		y, too := Down(d, v)
		if has && too {
			holdResults(t, c, d, x, y)
		}
	})
}
