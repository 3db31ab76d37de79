package replay

import (
	"math"
	"math/big"
	"math/rand"
	"slices"
	"testing"

	"winnow/api"
	"winnow/num"
)

const least, greatest = math.MinInt64, math.MaxInt64

func whole(v int64) *big.Int { return big.NewInt(v) }

// class is a Num's class by the document: its number alone, or a modulus and a remainder.
func class(a api.Num) (m, r *big.Int) {
	if a.C.M == 0 {
		return new(big.Int), whole(int64(a.C.R))
	}
	return new(big.Int).SetUint64(a.C.M), new(big.Int).SetUint64(a.C.R)
}

// nextUp is the least number of a Num, as it is handed in, that is at least v, as whole numbers; nil: there is none.
func nextUp(a api.Num, v *big.Int) *big.Int {
	if a.Bot {
		return nil
	}
	if v.Cmp(whole(a.I.Lo)) < 0 {
		v = whole(a.I.Lo)
	}
	m, r := class(a)
	if m.Sign() > 0 {
		away := new(big.Int).Sub(r, v)
		r = away.Add(away.Mod(away, m), v)
	}
	if r.Cmp(v) < 0 || r.Cmp(whole(a.I.Hi)) > 0 {
		return nil
	}
	return r
}

// nextDown is the greatest number of a Num that is at most v; nil: there is none.
func nextDown(a api.Num, v *big.Int) *big.Int {
	if a.Bot {
		return nil
	}
	if v.Cmp(whole(a.I.Hi)) > 0 {
		v = whole(a.I.Hi)
	}
	m, r := class(a)
	if m.Sign() > 0 {
		away := new(big.Int).Sub(v, r)
		r = away.Sub(v, away.Mod(away, m))
	}
	if r.Cmp(v) > 0 || r.Cmp(whole(a.I.Lo)) < 0 {
		return nil
	}
	return r
}

// picked is what Pick answers by the chapter's words, in whole numbers of any size.
func picked(a api.Num, try int) (int64, bool) {
	lo, hi := nextUp(a, whole(least)), nextDown(a, whole(greatest))
	if lo == nil || try < 0 || try >= api.MaxTries {
		return 0, false
	}
	switch try {
	case 0:
		above, below := nextUp(a, whole(0)), nextDown(a, whole(0))
		if above == nil || below != nil && below.CmpAbs(above) < 0 {
			return below.Int64(), true
		}
		return above.Int64(), true
	case 1:
		return lo.Int64(), true
	case 2:
		return hi.Int64(), true
	}
	middle := new(big.Int).Sub(hi, lo)
	middle.Rsh(middle, 1).Add(middle, lo)
	return nextUp(a, middle).Int64(), true
}

// oneByOne is what Pick answers of a Num all of whose numbers are in a list that rises.
func oneByOne(numbers []int64, try int) (int64, bool) {
	if len(numbers) == 0 || try < 0 || try >= api.MaxTries {
		return 0, false
	}
	lo, hi := numbers[0], numbers[len(numbers)-1]
	switch try {
	case 0:
		best := lo
		for _, v := range numbers {
			if max(v, -v) <= max(best, -best) { // of two alike the later one, which is above 0
				best = v
			}
		}
		return best, true
	case 1:
		return lo, true
	case 2:
		return hi, true
	}
	middle := lo + (hi-lo)/2
	return numbers[slices.IndexFunc(numbers, func(v int64) bool { return v >= middle })], true
}

// tries are all that there are, and some that are none.
func tries() []int {
	return []int{0, 1, 2, 3, -1, 4, 5, math.MinInt, math.MaxInt, -3, 1 << 32, -1 << 32, 1<<32 + 1}
}

// P24.1: all intervals between -8 and 8 with all small classes, as they are handed in, the numbers gone through one by one.
func TestFewNumbersOneByOne(t *testing.T) {
	t.Parallel()
	twins, none := 0, 0
	for lo := int64(-8); lo <= 8; lo++ {
		for hi := int64(-8); hi <= 8; hi++ {
			for m := range uint64(10) {
				for _, r := range []uint64{0, 1, 2, 3, 4, 5, 6, 7, 8, 11, math.MaxUint64, math.MaxUint64 - 5} {
					a := raw(lo, hi, m, r)
					var numbers []int64
					for v := lo; v <= hi; v++ {
						if num.Has(a, v) {
							numbers = append(numbers, v)
						}
					}
					for _, try := range tries() {
						want, some := oneByOne(numbers, try)
						wantPick(t, a, try, want, some)
						again, same := picked(a, try)
						if again != want || same != some {
							t.Fatalf("the words told in whole numbers say %d, %v of %v, try %d", again, same, a, try)
						}
					}
					if v, ok := Pick(a, 0); ok && v > 0 && num.Has(a, -v) {
						twins++
					} else if !ok {
						none++
					}
				}
			}
		}
	}
	if twins < 200 || none < 5000 {
		t.Errorf("the Nums are too much alike: %d with two nearest, %d with none", twins, none)
	}
}

// P24.1: tries that are none, of Nums of every kind.
func TestTriesThatAreNone(t *testing.T) {
	for _, a := range []api.Num{num.Bot(), num.Top(), is(0), is(5), in(-3, 9), raw(4, 9, 3, 1), raw(9, 4, 3, 1)} {
		for _, try := range []int{-1, -2, -3, -4, 4, 5, 6, 7, 8, math.MinInt, math.MaxInt, 1 << 32, 1 << 62} {
			wantPick(t, a, try, 0, false)
		}
	}
}

// P24.1: Nums that mean none, whatever stands in them.
func TestNumsThatMeanNone(t *testing.T) {
	for _, a := range []api.Num{
		num.Bot(), {Bot: true, I: api.Ival{Lo: 1, Hi: 5}, C: api.Cong{M: 1}}, {Bot: true, C: api.Cong{R: 0}},
		raw(1, 0, 1, 0), raw(greatest, least, 1, 0), raw(4, 6, 4, 3), raw(0, 3, 0, 5), raw(-9, -1, 0, 4), raw(1, 5, 0, math.MaxUint64),
		raw(2, greatest, 1<<63, 1), raw(greatest, greatest, 2, 0), raw(least, least, 2, 1), raw(0, 1<<40, 1<<41, 1<<40+1),
	} {
		for _, try := range tries() {
			wantPick(t, a, try, 0, false)
		}
	}
}

// P24.1: Nums of one number are told by each try.
func TestNumsOfOneNumber(t *testing.T) {
	for _, v := range []int64{0, 1, -1, 7, -7, 1 << 40, -1 << 40, least, least + 1, greatest, greatest - 1} {
		for _, a := range []api.Num{
			is(v), raw(v, v, 1, 0), raw(least, greatest, 0, uint64(v)), raw(v, v, 0, uint64(v)), raw(max(v, least+3)-3, v, math.MaxUint64, leaves(v)),
		} {
			for try := range api.MaxTries {
				wantPick(t, a, try, v, true)
			}
		}
	}
}

// leaves is what a number leaves by the greatest modulus.
func leaves(v int64) uint64 {
	m := new(big.Int).SetUint64(math.MaxUint64)
	return new(big.Int).Mod(whole(v), m).Uint64()
}

// P24.1: rows by hand: above 0, below 0 and around 0, classes that leave out 0, the ends and the middle, two with one absolute value, differences that are no int64.
func TestPicksByHand(t *testing.T) {
	const half = 1 << 62
	for _, row := range []struct {
		a    api.Num
		want [api.MaxTries]int64
	}{
		{in(1, 2), [...]int64{1, 1, 2, 1}},
		{in(5, 8), [...]int64{5, 5, 8, 6}},
		{in(-8, -5), [...]int64{-5, -8, -5, -7}},
		{in(-2, -1), [...]int64{-1, -2, -1, -2}},
		{in(0, 7), [...]int64{0, 0, 7, 3}},
		{in(-7, 0), [...]int64{0, -7, 0, -4}},
		{in(-1, 1), [...]int64{0, -1, 1, 0}},
		{in(-2, 1), [...]int64{0, -2, 1, -1}},
		{raw(-4, 4, 2, 1), [...]int64{1, -3, 3, 1}},    // two nearest: 1 and -1; the middle, 0, is left out
		{raw(-5, 2, 4, 3), [...]int64{-1, -5, -1, -1}}, // -5 and -1: the middle is -3
		{raw(-5, 4, 4, 3), [...]int64{-1, -5, 3, -1}},
		{raw(-10, 10, 20, 10), [...]int64{10, -10, 10, 10}},
		{raw(-10, 11, 20, 10), [...]int64{10, -10, 10, 10}},
		{raw(-6, 20, 7, 2), [...]int64{2, -5, 16, 9}}, // -5, 2, 9, 16: the middle is 5
		{raw(-20, 6, 7, 5), [...]int64{-2, -16, 5, -2}},
		{raw(1, 100, 10, 13), [...]int64{3, 3, 93, 53}}, // R isn't below M; the middle is 48
		{in(least, least+1), [...]int64{least + 1, least, least + 1, least}},
		{in(greatest-1, greatest), [...]int64{greatest - 1, greatest - 1, greatest, greatest - 1}},
		{in(least, 0), [...]int64{0, least, 0, -half}},
		{in(0, greatest), [...]int64{0, 0, greatest, half - 1}},
		{in(least+1, greatest), [...]int64{0, least + 1, greatest, 0}},
		{in(least, greatest-1), [...]int64{0, least, greatest - 1, -1}},
		{in(-half-1, half), [...]int64{0, -half - 1, half, -1}}, // one more than an int64 between the ends
		{in(-half, half-1), [...]int64{0, -half, half - 1, -1}}, // the greatest int64 between them
		{raw(least, greatest, 1<<63, 0), [...]int64{0, least, 0, 0}},
		{raw(least, greatest, 1<<63, 1), [...]int64{1, least + 1, 1, 1}},
		{raw(least, greatest, math.MaxUint64, 1<<63-1), [...]int64{greatest, least, greatest, greatest}},
		{raw(least, greatest, math.MaxUint64-1, 1<<63-1), [...]int64{greatest, least + 1, greatest, greatest}}, // two with one absolute value
		{raw(least, greatest, 2, 1), [...]int64{1, least + 1, greatest, 1}},
		{raw(least, greatest, 2, 0), [...]int64{0, least, greatest - 1, 0}}, // the middle is -1
	} {
		for try, want := range row.want {
			wantPick(t, row.a, try, want, true)
		}
	}
}

// P24.1: great and small Nums by chance, held against the words told in whole numbers of any size; the number is one of a's.
func TestPicksByChance(t *testing.T) {
	t.Parallel()
	r := rand.New(rand.NewSource(241))
	end := func() int64 {
		near := []int64{least, -1 << 62, -1 << 31, 0, 0, 0, 1 << 31, 1 << 62, greatest}[r.Intn(9)]
		return int64(uint64(near) + uint64(r.Intn(41)-20)*uint64(1+r.Intn(9)))
	}
	great, some := 0, 0
	for i := range 60000 {
		a := raw(end(), end(), uint64(r.Intn(12)), uint64(r.Intn(40)))
		switch i % 5 {
		case 0:
			a.C = api.Cong{M: r.Uint64() >> r.Intn(64), R: r.Uint64() >> r.Intn(64)}
		case 1:
			a.C = api.Cong{M: 1}
		case 2:
			a.I.Lo, a.I.Hi = min(a.I.Lo, a.I.Hi), max(a.I.Lo, a.I.Hi)
		}
		for try := range api.MaxTries {
			want, ok := picked(a, try)
			wantPick(t, a, try, want, ok)
			wantPick(t, num.Norm(a), try, want, ok)
			if ok && !num.Has(a, want) {
				t.Fatalf("P24.1: %d isn't a number of %v", want, a)
			}
		}
		if lo, ok := Pick(a, 1); ok {
			some++
			if hi, _ := Pick(a, 2); hi-lo < 0 {
				great++
			}
		}
	}
	if some < 20000 || great < 3000 {
		t.Errorf("the Nums are too much alike: %d with numbers, %d with a difference that is no int64", some, great)
	}
}
