package word

import (
	"math"
	"math/big"
	"testing"
)

const (
	minInt = math.MinInt64
	maxInt = math.MaxInt64
)

// ends are the numbers around which an operation changes its ways.
func ends() []int64 {
	out := []int64{minInt, minInt + 1, minInt + 2, maxInt - 1, maxInt}
	for _, v := range []int64{0, 1, 2, 3, 7, 10, 97, 1<<31 - 1, 1 << 31, 1<<32 - 1, 1 << 32, 1<<32 + 1, 3037000499, 3037000500, 1 << 61, 1 << 62, 1<<62 + 1, 6148914691236517205} {
		out = append(out, v, -v)
	}
	return out
}

// spread are numbers all over the range, by a fixed rule.
func spread(n int) []int64 {
	out := make([]int64, 0, n)
	for i, x := 0, uint64(1); i < n; i++ {
		x = x*6364136223846793005 + 1442695040888963407
		out = append(out, int64(x)>>(x%61))
	}
	return out
}

func samples() []int64 { return append(ends(), spread(120)...) }

func unsigned() []uint64 {
	var out []uint64
	for _, v := range samples() {
		out = append(out, uint64(v))
	}
	for i := range 64 {
		out = append(out, 1<<i, 3<<i, 1<<i-1)
	}
	return append(out, math.MaxUint64, math.MaxUint64-1)
}

func exact(v int64) *big.Int    { return big.NewInt(v) }
func exactU(v uint64) *big.Int  { return new(big.Int).SetUint64(v) }
func modulus() *big.Int         { return new(big.Int).Lsh(big.NewInt(1), 64) }
func wrap(x *big.Int) int64     { return int64(new(big.Int).Mod(x, modulus()).Uint64()) }
func zero() *big.Int            { return new(big.Int) }
func divides(a, b uint64) bool  { return b == 0 || a != 0 && b%a == 0 }
func powerOfTwo(m uint64) bool  { return m != 0 && m&(m-1) == 0 }
func within(v, m *big.Int) bool { return v.Sign() >= 0 && v.Cmp(m) < 0 }

// P1.1: the examples and the ends of the range.
func TestWrappingExamples(t *testing.T) {
	for _, c := range []struct {
		what      string
		got, want int64
	}{
		{"Add(2, 3)", Add(2, 3), 5},
		{"Add(-2, -3)", Add(-2, -3), -5},
		{"Add(MaxInt, 1)", Add(maxInt, 1), minInt},
		{"Add(1, MaxInt)", Add(1, maxInt), minInt},
		{"Add(MinInt, -1)", Add(minInt, -1), maxInt},
		{"Add(MinInt, MinInt)", Add(minInt, minInt), 0},
		{"Add(MaxInt, MaxInt)", Add(maxInt, maxInt), -2},
		{"Sub(2, 3)", Sub(2, 3), -1},
		{"Sub(MinInt, 1)", Sub(minInt, 1), maxInt},
		{"Sub(MaxInt, -1)", Sub(maxInt, -1), minInt},
		{"Sub(0, MinInt)", Sub(0, minInt), minInt},
		{"Sub(MinInt, MinInt)", Sub(minInt, minInt), 0},
		{"Mul(-3, 4)", Mul(-3, 4), -12},
		{"Mul(-3, -4)", Mul(-3, -4), 12},
		{"Mul(0, MinInt)", Mul(0, minInt), 0},
		{"Mul(4294967296, 4294967296)", Mul(4294967296, 4294967296), 0},
		{"Mul(4294967296, 2147483648)", Mul(4294967296, 2147483648), minInt},
		{"Mul(MinInt, -1)", Mul(minInt, -1), minInt},
		{"Mul(MinInt, MinInt)", Mul(minInt, minInt), 0},
		{"Mul(MaxInt, MaxInt)", Mul(maxInt, maxInt), 1},
		{"Neg(0)", Neg(0), 0},
		{"Neg(7)", Neg(7), -7},
		{"Neg(-7)", Neg(-7), 7},
		{"Neg(MaxInt)", Neg(maxInt), minInt + 1},
		{"Neg(MinInt)", Neg(minInt), minInt},
	} {
		if c.got != c.want {
			t.Errorf("P1.1: %s = %d, want %d", c.what, c.got, c.want)
		}
	}
}

// P1.1: held against whole numbers that have no end.
func TestWrappingIsTheLowestBits(t *testing.T) {
	for _, a := range samples() {
		if got, want := Neg(a), wrap(zero().Neg(exact(a))); got != want {
			t.Errorf("P1.1: Neg(%d) = %d, want %d", a, got, want)
		}
		for _, b := range samples() {
			if got, want := Add(a, b), wrap(zero().Add(exact(a), exact(b))); got != want {
				t.Errorf("P1.1: Add(%d, %d) = %d, want %d", a, b, got, want)
			}
			if got, want := Sub(a, b), wrap(zero().Sub(exact(a), exact(b))); got != want {
				t.Errorf("P1.1: Sub(%d, %d) = %d, want %d", a, b, got, want)
			}
			if got, want := Mul(a, b), wrap(zero().Mul(exact(a), exact(b))); got != want {
				t.Errorf("P1.1: Mul(%d, %d) = %d, want %d", a, b, got, want)
			}
		}
	}
}

// P1.2: the examples, a divisor of 0 and of -1, and the ends of the range.
func TestDivisionExamples(t *testing.T) {
	for _, c := range []struct {
		a, b, q, r int64
		ok         bool
	}{
		{7, 2, 3, 1, true}, {-7, 2, -3, -1, true}, {7, -2, -3, 1, true}, {-7, -2, 3, -1, true},
		{6, 3, 2, 0, true}, {-6, 3, -2, 0, true}, {1, 2, 0, 1, true}, {-1, 2, 0, -1, true}, {0, -5, 0, 0, true},
		{5, -1, -5, 0, true}, {maxInt, -1, minInt + 1, 0, true}, {minInt, -1, minInt, 0, true},
		{minInt, 1, minInt, 0, true}, {minInt, minInt, 1, 0, true}, {maxInt, minInt, 0, maxInt, true}, {minInt, maxInt, -1, -1, true},
		{5, 0, 0, 0, false}, {0, 0, 0, 0, false}, {-5, 0, 0, 0, false}, {minInt, 0, 0, 0, false}, {maxInt, 0, 0, 0, false},
	} {
		if q, ok := Div(c.a, c.b); q != c.q || ok != c.ok {
			t.Errorf("P1.2: Div(%d, %d) = %d, %v, want %d, %v", c.a, c.b, q, ok, c.q, c.ok)
		}
		if r, ok := Rem(c.a, c.b); r != c.r || ok != c.ok {
			t.Errorf("P1.2: Rem(%d, %d) = %d, %v, want %d, %v", c.a, c.b, r, ok, c.r, c.ok)
		}
	}
}

// P1.2: the quotient rounded to zero, and what it leaves.
func TestDivisionRoundsToZero(t *testing.T) {
	for _, a := range samples() {
		for _, b := range samples() {
			if b == 0 {
				continue
			}
			q, r := zero().QuoRem(exact(a), exact(b), zero())
			if got, ok := Div(a, b); got != wrap(q) || !ok {
				t.Errorf("P1.2: Div(%d, %d) = %d, %v, want %d, true", a, b, got, ok, wrap(q))
			}
			if got, ok := Rem(a, b); got != wrap(r) || !ok {
				t.Errorf("P1.2: Rem(%d, %d) = %d, %v, want %d, true", a, b, got, ok, wrap(r))
			}
		}
	}
}

// P1.3: the examples, and products just inside and beyond 64 bits.
func TestWideExamples(t *testing.T) {
	for _, c := range []struct {
		a, b, hi int64
		lo       uint64
	}{
		{0, 0, 0, 0}, {0, -5, 0, 0}, {2, 3, 0, 6}, {-2, -3, 0, 6}, {-2, 3, -1, math.MaxUint64 - 5},
		{-1, 1, -1, math.MaxUint64}, {1, -1, -1, math.MaxUint64}, {maxInt, 2, 0, math.MaxUint64 - 1}, {maxInt, 3, 1, 1<<63 - 3},
		{minInt, 1, -1, 1 << 63}, {minInt, -1, 0, 1 << 63}, {-1, minInt, 0, 1 << 63}, {minInt, 2, -1, 0},
		{1 << 32, 1 << 32, 1, 0}, {-1 << 32, 1 << 32, -1, 0},
		{minInt, minInt, 1 << 62, 0}, {maxInt, maxInt, 1<<62 - 1, 1}, {minInt, maxInt, -1 << 62, 1 << 63}, {maxInt, minInt, -1 << 62, 1 << 63},
	} {
		if hi, lo := Wide(c.a, c.b); hi != c.hi || lo != c.lo {
			t.Errorf("P1.3: Wide(%d, %d) = %d, %d, want %d, %d", c.a, c.b, hi, lo, c.hi, c.lo)
		}
	}
}

// P1.3: the two halves put together are the product.
func TestWideIsExact(t *testing.T) {
	for _, a := range samples() {
		for _, b := range samples() {
			hi, lo := Wide(a, b)
			got := zero().Add(zero().Mul(exact(hi), modulus()), exactU(lo))
			if want := zero().Mul(exact(a), exact(b)); got.Cmp(want) != 0 {
				t.Errorf("P1.3: Wide(%d, %d) = %d, %d: together %d, want %d", a, b, hi, lo, got, want)
			}
		}
	}
}

// P1.4: the examples, and 0 at either side.
func TestGcdExamples(t *testing.T) {
	for _, c := range []struct{ a, b, want uint64 }{
		{12, 18, 6}, {18, 12, 6}, {17, 4, 1}, {1, 1, 1}, {5, 5, 5}, {5, 10, 5}, {10, 5, 5},
		{0, 5, 5}, {5, 0, 5}, {0, 0, 0}, {0, math.MaxUint64, math.MaxUint64}, {math.MaxUint64, 0, math.MaxUint64},
		{1 << 63, 6, 2}, {6, 1 << 63, 2}, {math.MaxUint64, math.MaxUint64, math.MaxUint64}, {math.MaxUint64, math.MaxUint64 - 1, 1},
		{12200160415121876738, 7540113804746346429, 1}, // neighbours of Fibonacci's row: the longest way
	} {
		if got := Gcd(c.a, c.b); got != c.want {
			t.Errorf("P1.4: Gcd(%d, %d) = %d, want %d", c.a, c.b, got, c.want)
		}
	}
}

// P1.4: it divides both, and no greater one does.
func TestGcdDividesAndIsGreatest(t *testing.T) {
	for _, a := range unsigned() {
		for _, b := range unsigned() {
			got := Gcd(a, b)
			if !divides(got, a) || !divides(got, b) {
				t.Fatalf("P1.4: Gcd(%d, %d) = %d doesn't divide both", a, b, got)
			}
			if want := zero().GCD(nil, nil, exactU(a), exactU(b)); exactU(got).Cmp(want) != 0 {
				t.Errorf("P1.4: Gcd(%d, %d) = %d, want %d", a, b, got, want)
			}
		}
	}
}

func TestEven(t *testing.T) {
	for _, c := range []struct{ m, want uint64 }{
		{12, 4}, {0, 0}, {7, 1}, {1, 1}, {2, 2}, {6, 2}, {96, 32},
		{1 << 63, 1 << 63}, {3 << 62, 1 << 62}, {math.MaxUint64, 1}, {math.MaxUint64 - 1, 2}, {math.MaxUint64 - 15, 16},
	} {
		if got := Even(c.m); got != c.want {
			t.Errorf("P1.4: Even(%d) = %d, want %d", c.m, got, c.want)
		}
	}
	for _, m := range unsigned() {
		if m == 0 {
			continue
		}
		got := Even(m)
		if !powerOfTwo(got) || m%got != 0 || m/got%2 == 0 {
			t.Errorf("P1.4: Even(%d) = %d is not the greatest power of two that divides it", m, got)
		}
	}
}

// P1.5: the examples, m 0, and moduli that are no int64.
func TestModExamples(t *testing.T) {
	for _, c := range []struct {
		v    int64
		m, r uint64
	}{
		{7, 3, 1}, {-7, 3, 2}, {6, 3, 0}, {-6, 3, 0}, {0, 3, 0}, {-1, 3, 2}, {2, 3, 2}, {3, 3, 0}, {-3, 3, 0},
		{7, 1, 0}, {-7, 1, 0}, {maxInt, 1, 0}, {minInt, 1, 0}, {minInt, 3, 1},
		{0, 0, 0}, {7, 0, 7}, {-1, 0, math.MaxUint64}, {minInt, 0, 1 << 63}, {maxInt, 0, 1<<63 - 1},
		{minInt, 1 << 63, 0}, {-1, 1 << 63, 1<<63 - 1}, {maxInt, 1 << 63, maxInt}, {minInt, 1<<63 + 1, 1},
		{minInt, math.MaxUint64, 1<<63 - 1}, {-1, math.MaxUint64, math.MaxUint64 - 1}, {maxInt, math.MaxUint64, maxInt},
	} {
		if got := Mod(c.v, c.m); got != c.r {
			t.Errorf("P1.5: Mod(%d, %d) = %d, want %d", c.v, c.m, got, c.r)
		}
	}
}

// P1.5: from 0 to m - 1, and v less it is a multiple of m.
func TestModIsTheRemainderFromZeroOn(t *testing.T) {
	for _, v := range samples() {
		for _, m := range unsigned() {
			if m == 0 {
				continue
			}
			got := exactU(Mod(v, m))
			rest := zero().Mod(zero().Sub(exact(v), got), exactU(m))
			if !within(got, exactU(m)) || rest.Sign() != 0 {
				t.Errorf("P1.5: Mod(%d, %d) = %d, want %d", v, m, got, zero().Mod(exact(v), exactU(m)))
			}
		}
	}
}
