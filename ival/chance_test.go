package ival

import (
	"math/big"
	"math/rand"
	"slices"
	"testing"

	"winnow/api"
	"winnow/word"
)

// A second saying of the chapter's words: whole numbers are math/big's, and what can be counted is counted.

func big64(v int64) *big.Int { return big.NewInt(v) }

// onWholes is an operation's result as a whole number; false: there is none.
func onWholes(name string, x, y int64) (*big.Int, bool) {
	out := new(big.Int)
	switch name {
	case "Neg":
		return out.Neg(big64(x)), true
	case "Add":
		return out.Add(big64(x), big64(y)), true
	case "Sub":
		return out.Sub(big64(x), big64(y)), true
	case "Mul":
		return out.Mul(big64(x), big64(y)), true
	}
	if y == 0 {
		return nil, false
	}
	if name == "Div" {
		return out.Quo(big64(x), big64(y)), true
	}
	return out.Rem(big64(x), big64(y)), true
}

// onWords is an operation's result as word gives it; false: there is none.
func onWords(name string, x, y int64) (int64, bool) {
	switch name {
	case "Neg":
		return word.Neg(x), true
	case "Add":
		return word.Add(x, y), true
	case "Sub":
		return word.Sub(x, y), true
	case "Mul":
		return word.Mul(x, y), true
	case "Div":
		return word.Div(x, y)
	}
	return word.Rem(x, y)
}

// numbers are all numbers of a, which must be few.
func numbers(a api.Ival) []int64 {
	var out []int64
	for v := a.Lo; v <= a.Hi; v++ {
		out = append(out, v)
		if v == maxInt {
			break
		}
	}
	return out
}

func hullOf(list []int64) api.Ival {
	if len(list) == 0 {
		return iv(1, 0)
	}
	return iv(slices.Min(list), slices.Max(list))
}

// counted is the hull of the results of all numbers of two lists, and whether none wraps.
func counted(name string, as, bs []int64) (api.Ival, bool) {
	var results []int64
	exact := true
	for _, x := range as {
		for _, y := range bs {
			if v, ok := onWords(name, x, y); ok {
				results = append(results, v)
				w, _ := onWholes(name, x, y)
				exact = exact && w.IsInt64()
			}
		}
	}
	return hullOf(results), exact
}

// wordOf is the number to which a whole number wraps.
func wordOf(w *big.Int) int64 {
	turn := new(big.Int).Lsh(big64(1), 64)
	return int64(new(big.Int).Mod(w, turn).Uint64())
}

// byEnds is Neg, Add and Sub of intervals of any size: the results are all whole numbers between the ends.
func byEnds(name string, a, b api.Ival) (api.Ival, bool) {
	if a.Lo > a.Hi || name != "Neg" && b.Lo > b.Hi {
		return iv(1, 0), true
	}
	var low, high *big.Int
	switch name {
	case "Neg":
		low, _ = onWholes(name, a.Hi, 0)
		high, _ = onWholes(name, a.Lo, 0)
	case "Add":
		low, _ = onWholes(name, a.Lo, b.Lo)
		high, _ = onWholes(name, a.Hi, b.Hi)
	case "Sub":
		low, _ = onWholes(name, a.Lo, b.Hi)
		high, _ = onWholes(name, a.Hi, b.Lo)
	}
	exact := low.IsInt64() && high.IsInt64()
	// A run of fewer than 2^64 numbers that wraps to an end below its beginning has gone over the greatest number.
	if new(big.Int).Sub(high, low).BitLen() > 64 || wordOf(low) > wordOf(high) {
		return iv(minInt, maxInt), exact
	}
	return iv(wordOf(low), wordOf(high)), exact
}

// product2 is Mul, to the letter of P11.4.
func product2(a, b api.Ival) (api.Ival, bool) {
	if a.Lo > a.Hi || b.Lo > b.Hi {
		return iv(1, 0), true
	}
	var results []*big.Int
	for _, x := range []int64{a.Lo, a.Hi} {
		for _, y := range []int64{b.Lo, b.Hi} {
			results = append(results, new(big.Int).Mul(big64(x), big64(y)))
		}
	}
	low, high := slices.MinFunc(results, (*big.Int).Cmp), slices.MaxFunc(results, (*big.Int).Cmp)
	if low.IsInt64() && high.IsInt64() {
		return iv(low.Int64(), high.Int64()), true
	}
	if a.Lo == a.Hi && b.Lo == b.Hi {
		return iv(wordOf(low), wordOf(low)), false
	}
	return iv(minInt, maxInt), false
}

// keys are the numbers of a at which a quotient may be least or greatest: at and beside the ends of a, of all numbers, and of 0.
func keys(a api.Ival) []int64 {
	var out []int64
	for _, k := range []int64{a.Lo, a.Hi, 0, minInt, maxInt} {
		for d := int64(-2); d <= 2; d++ {
			if v := word.Add(k, d); a.Lo <= v && v <= a.Hi {
				out = append(out, v)
			}
		}
	}
	return out
}

// remainders is Rem, to the letter of P11.5, on whole numbers.
func remainders(a, b api.Ival) api.Ival {
	if a.Lo > a.Hi || b.Lo > b.Hi || b.Lo == 0 && b.Hi == 0 {
		return iv(1, 0)
	}
	if a.Lo == a.Hi && b.Lo == b.Hi {
		v, _ := word.Rem(a.Lo, b.Lo)
		return iv(v, v)
	}
	distance := func(v int64) *big.Int { return new(big.Int).Abs(big64(v)) }
	nearer := true
	for _, x := range keys(a) {
		for _, y := range keys(b) {
			nearer = nearer && (y == 0 || distance(x).Cmp(distance(y)) < 0)
		}
	}
	if nearer {
		return a
	}
	m := distance(b.Lo)
	if other := distance(b.Hi); m.Cmp(other) < 0 {
		m = other
	}
	bound := m.Sub(m, big64(1)).Int64()
	out := iv(0, 0)
	if a.Lo < 0 {
		out.Lo = max(a.Lo, -bound)
	}
	if a.Hi > 0 {
		out.Hi = min(a.Hi, bound)
	}
	return out
}

// secondSaying is what an operation must answer, for intervals of any size.
func secondSaying(name string, a, b api.Ival) (api.Ival, bool) {
	switch name {
	case "Mul":
		return product2(a, b)
	case "Div":
		return counted(name, keys(a), keys(b))
	case "Rem":
		return remainders(a, b), true
	}
	return byEnds(name, a, b)
}

// pairs hands over each interval whose ends stand in the list with each, those without numbers among them.
func pairs(ends []int64, each func(a, b api.Ival)) {
	for _, p := range ends {
		for _, q := range ends {
			for _, r := range ends {
				for _, s := range ends {
					each(iv(p, q), iv(r, s))
				}
			}
		}
	}
}

func asSet(a api.Ival) map[int64]int {
	out := map[int64]int{}
	for _, v := range numbers(a) {
		out[v] = 1
	}
	return out
}

// P11.1: all small intervals against the sets of their numbers.
func TestSetsOfSmallNumbers(t *testing.T) {
	pairs([]int64{-4, -3, -2, -1, 0, 1, 2, 3, 4}, func(a, b api.Ival) {
		as, bs := asSet(a), asSet(b)
		var both []int64
		below := true
		for v := range as {
			if bs[v] == 1 {
				both = append(both, v)
			} else {
				below = false
			}
		}
		if got := Leq(a, b); got != below {
			t.Fatalf("P11.1: Leq(%v, %v) = %v", a, b, got)
		}
		if got, want := Meet(a, b), hullOf(both); got != want {
			t.Fatalf("P11.1: Meet(%v, %v) = %v, want %v", a, b, got, want)
		}
		if got, want := Join(a, b), hullOf(append(numbers(a), numbers(b)...)); got != want {
			t.Fatalf("P11.1: Join(%v, %v) = %v, want %v", a, b, got, want)
		}
		for v := int64(-5); v <= 5; v++ {
			if got := Has(a, v); got != (as[v] == 1) {
				t.Fatalf("P11.1: Has(%v, %d) = %v", a, v, got)
			}
		}
	})
}

// holdCounted holds all operations on two intervals of few numbers against all their results.
func holdCounted(t *testing.T, a, b api.Ival) {
	t.Helper()
	as, bs := numbers(a), numbers(b)
	for _, o := range operations() {
		got, exact := o.call(a, b)
		var want api.Ival
		var none bool
		if o.name == "Neg" {
			want, none = counted(o.name, as, []int64{0})
		} else {
			want, none = counted(o.name, as, bs)
		}
		if o.name == "Mul" && !none && len(as)*len(bs) > 1 {
			want = iv(minInt, maxInt)
		}
		if o.name == "Rem" {
			if !exact || !Leq(want, got) || got != remainders(a, b) {
				t.Fatalf("P11.5: Rem(%v, %v) = %v, %v, want %v and true, which holds %v", a, b, got, exact, remainders(a, b), want)
			}
			continue
		}
		if got != want || exact != none {
			t.Fatalf("P11.3, P11.4: %s(%v, %v) = %v, %v, want %v, %v", o.name, a, b, got, exact, want, none)
		}
	}
}

// P11.3 to P11.5: all intervals of small numbers, each with each.
func TestOperationsOfSmallNumbers(t *testing.T) {
	pairs([]int64{-5, -4, -3, -2, -1, 0, 1, 2, 3, 4, 5}, func(a, b api.Ival) { holdCounted(t, a, b) })
}

// P11.3 to P11.5: the same where the ends lie at and beside the least and the greatest number, with those there and with small ones.
func TestOperationsAtTheEnds(t *testing.T) {
	var list []api.Ival
	for _, near := range [][]int64{{minInt, minInt + 1, minInt + 2, minInt + 3}, {-2, -1, 0, 1, 2}, {maxInt - 3, maxInt - 2, maxInt - 1, maxInt}, {1<<62 - 1, 1 << 62, 1<<62 + 1}, {-1<<62 - 1, -1 << 62, -1<<62 + 1}, {1<<32 - 1, 1 << 32}} {
		for _, lo := range near {
			for _, hi := range near {
				list = append(list, iv(lo, hi))
			}
		}
	}
	for _, a := range list {
		for _, b := range list {
			holdCounted(t, a, b)
		}
	}
}

// ends are the numbers around which an operation changes its ways.
func ends() []int64 {
	return []int64{minInt, minInt + 1, -1 << 62, -3037000500, -7, -2, -1, 0, 1, 2, 5, 3037000500, 1<<62 + 1, maxInt - 1, maxInt}
}

func holdSecond(t *testing.T, a, b api.Ival) {
	t.Helper()
	for _, o := range operations() {
		got, exact := o.call(a, b)
		if want, none := secondSaying(o.name, a, b); got != want || exact != none {
			t.Fatalf("P11.3 to P11.5: %s(%v, %v) = %v, %v, want %v, %v", o.name, a, b, got, exact, want, none)
		}
	}
}

// P11.3 to P11.5: intervals of any size.
func TestOperationsOfAnySize(t *testing.T) {
	pairs(ends(), func(a, b api.Ival) { holdSecond(t, a, b) })
}

// number is one by chance: small, near an end, or of any size.
func number(m *rand.Rand) int64 {
	switch m.Intn(4) {
	case 0:
		return int64(m.Intn(21) - 10)
	case 1:
		return word.Add(ends()[m.Intn(len(ends()))], int64(m.Intn(7)-3))
	}
	return int64(m.Uint64()) >> m.Intn(64)
}

// interval is one by chance: of one number, of few, or of any ends, none among them.
func interval(m *rand.Rand) api.Ival {
	lo := number(m)
	switch m.Intn(4) {
	case 0:
		return iv(lo, lo)
	case 1:
		return iv(lo, word.Add(lo, int64(m.Intn(9))))
	}
	hi := number(m)
	if lo > hi && m.Intn(8) != 0 {
		return iv(hi, lo)
	}
	return iv(lo, hi)
}

// inside is a number of a, which isn't none, by chance.
func inside(m *rand.Rand, a api.Ival) int64 {
	if m.Intn(3) == 0 {
		return []int64{a.Lo, a.Hi}[m.Intn(2)]
	}
	width := uint64(a.Hi) - uint64(a.Lo)
	if width+1 == 0 {
		return int64(m.Uint64())
	}
	return int64(uint64(a.Lo) + m.Uint64()%(width+1))
}

// P11.3 to P11.5: intervals by chance; each answer holds the results of their numbers.
func TestOperationsByChance(t *testing.T) {
	m := rand.New(rand.NewSource(113))
	for range 60000 {
		a, b := interval(m), interval(m)
		holdSecond(t, a, b)
		if a.Lo > a.Hi || b.Lo > b.Hi {
			continue
		}
		x, y := inside(m, a), inside(m, b)
		for _, o := range operations() {
			got, exact := o.call(a, b)
			v, ok := onWords(o.name, x, y)
			if !ok {
				continue
			}
			if w, _ := onWholes(o.name, x, y); !Has(got, v) || exact && !w.IsInt64() {
				t.Fatalf("P11.3 to P11.5: %s(%v, %v) = %v, %v; of %d and %d it is %d, as a whole number %v", o.name, a, b, got, exact, x, y, v, w)
			}
		}
	}
}

// widened is Widen, to the letter of P11.2, by sorted thresholds.
func widened(a, b api.Ival, thresholds []int64) api.Ival {
	if a.Lo > a.Hi && b.Lo > b.Hi {
		return iv(1, 0)
	}
	if a.Lo > a.Hi {
		return b
	}
	if b.Lo > b.Hi {
		return a
	}
	sorted := slices.Sorted(slices.Values(append([]int64{minInt, maxInt}, thresholds...)))
	if b.Lo < a.Lo {
		i, found := slices.BinarySearch(sorted, b.Lo)
		if !found {
			i--
		}
		a.Lo = sorted[i]
	}
	if b.Hi > a.Hi {
		i, _ := slices.BinarySearch(sorted, b.Hi)
		a.Hi = sorted[i]
	}
	return a
}

// P11.2: all small intervals with all short lists of thresholds.
func TestWidenOfSmallNumbers(t *testing.T) {
	lists := [][]int64{nil}
	for _, p := range []int64{-3, -2, 0, 1, 3} {
		lists = append(lists, []int64{p})
		for _, q := range []int64{-3, -2, 0, 1, 3} {
			lists = append(lists, []int64{p, q}, []int64{p, q, p}, []int64{q, -1, p})
		}
	}
	pairs([]int64{-3, -2, -1, 0, 1, 2, 3}, func(a, b api.Ival) {
		for _, list := range lists {
			if got, want := Widen(a, b, list), widened(a, b, list); got != want {
				t.Fatalf("P11.2: Widen(%v, %v, %v) = %v, want %v", a, b, list, got, want)
			}
		}
	})
}

func thresholdsByChance(m *rand.Rand) []int64 {
	var out []int64
	for range m.Intn(8) {
		out = append(out, number(m))
	}
	return out
}

// P11.2: by chance; the answer holds both, and what neither goes beyond stays.
func TestWidenByChance(t *testing.T) {
	m := rand.New(rand.NewSource(112))
	for range 100000 {
		a, b, list := interval(m), interval(m), thresholdsByChance(m)
		got := Widen(a, b, list)
		if want := widened(a, b, list); got != want {
			t.Fatalf("P11.2: Widen(%v, %v, %v) = %v, want %v", a, b, list, got, want)
		}
		if !Leq(a, got) || !Leq(b, got) {
			t.Fatalf("P11.2: Widen(%v, %v, %v) = %v doesn't hold both", a, b, list, got)
		}
		m.Shuffle(len(list), func(i, j int) { list[i], list[j] = list[j], list[i] })
		if again := Widen(a, b, append(list, list...)); again != got {
			t.Fatalf("P11.2: Widen(%v, %v) hangs on the thresholds' order or number: %v, %v", a, b, got, again)
		}
	}
}

// P11.2: in a row of widenings each end changes at most as often as there are thresholds and once more.
func TestRowsOfWidenings(t *testing.T) {
	m := rand.New(rand.NewSource(1120))
	most := 0
	for range 4000 {
		list := thresholdsByChance(m)
		now, lows, highs := interval(m), 0, 0
		if m.Intn(2) == 0 {
			now = iv(1, 0)
		}
		begun := now.Lo <= now.Hi
		for range 60 {
			other := interval(m)
			if m.Intn(2) == 0 && begun {
				// One that goes beyond by the least step makes as many changes as there can be.
				other = iv(now.Lo-1, now.Hi+1)
			}
			next := Widen(now, other, list)
			if begun && next.Lo != now.Lo {
				lows++
			}
			if begun && next.Hi != now.Hi {
				highs++
			}
			now, begun = next, begun || next.Lo <= next.Hi
		}
		most = max(most, lows, highs)
		if lows > len(list)+1 || highs > len(list)+1 {
			t.Fatalf("P11.2: with the thresholds %v the ends changed %d and %d times", list, lows, highs)
		}
	}
	if most < 4 {
		t.Fatalf("the rows are too tame: at most %d changes", most)
	}
}

func FuzzAll(f *testing.F) {
	f.Add(int64(0), int64(3), int64(-5), int64(200), int64(100), int64(-7))
	f.Add(int64(minInt), int64(maxInt), int64(-1), int64(1), int64(0), int64(0))
	f.Fuzz(func(t *testing.T, p, q, r, s, low, high int64) {
		a, b := iv(p, q), iv(r, s)
		holdSecond(t, a, b)
		if got, want := Widen(a, b, []int64{low, high}), widened(a, b, []int64{low, high}); got != want {
			t.Fatalf("P11.2: Widen(%v, %v) = %v, want %v", a, b, got, want)
		}
		if !Leq(a, Join(a, b)) || !Leq(b, Join(a, b)) || !Leq(Meet(a, b), a) || !Leq(Meet(a, b), b) {
			t.Fatalf("P11.1: Join and Meet of %v and %v", a, b)
		}
	})
}
