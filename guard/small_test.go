package guard

import (
	"math/rand"
	"slices"
	"testing"

	"winnow/api"
	"winnow/env"
	"winnow/eval"
	"winnow/num"
)

// few are the variables of which every store is counted; an expression or a condition stands at the place 5.
const few = "var x; var y; array a[1]; array b[2]; "

func expressions() []string {
	return []string{
		"x", "5", "-x", "x + y", "x - y", "x * y", "x / y", "x % y", "a[x]", "b[x]", "b[x - y]", "a[0] + b[0]", "b[a[0]]", "a[b[x]]", "b[b[x]]", "x + x", "x - x", "x * x", "x / x", "x % (y % 3)", "a[0] * b[1] - x", "-(x / (y - 1))", "b[x * x % 3]", "a[x] - a[y]",
		"1 / (x - 1) / (y - 2)", "x / y * (y / x)", "b[-y]", "x % y % x", "9223372036854775807 + x - y", "(x + 9223372036854775807) * y", "(0 - 9223372036854775807 - x) / (y - 2)", "b[x] % 2 + b[y % 2] * 4",
	}
}

func conditions() []string {
	return []string{
		"true", "false", "!true", "x < y", "x <= y", "x > y", "x >= y", "x == y", "x != y", "x < x", "!(x < 2)", "!!(x < y)", "a[0] < 2", "b[x] < y", "x / y > 0", "1 / x < 1 / y", "b[x] == a[y]", "x % 2 == 0", "x * y == 2", "-x < y - 1",
		"x > 0 && y > 0", "x > 0 || y > 0", "x != 0 && 4 / x > 1", "x == 0 || 4 / x > 1", "4 / x > 1 && x != 0", "x >= 0 && x < 2 && b[x] > 0", "x < 0 || x > 1 || b[x] > 0", "(x == 0 || y == 0) && x / y < 3", "x < 1 && (y < 1 || b[y] > x)", "!(x < y && y < 2) || !(b[x] == y)", "1 / x == 1 && 1 / y == 1 || a[0] == x", "x == y && (x / y == 1 || false)", "9223372036854775807 + x > y", "x + 9223372036854775807 < 0 && y < 2",
	}
}

// smallNums are Nums of numbers from -2 to 3 with small classes.
func smallNums() []api.Num {
	out := []api.Num{no(), in(1, 0)}
	for lo := int64(-2); lo < 4; lo++ {
		for hi := lo; hi < 4; hi++ {
			out = append(out, in(lo, hi), nu(lo, hi, 2, uint64(lo&1)), nu(lo, hi, 3, 4), nu(lo, hi, 0, uint64(hi)))
		}
	}
	return out
}

// smallStores are all stores of x, y and the elements from -2 to 3.
func smallStores() []api.Store {
	var out []api.Store
	for i := range int64(6 * 6 * 6 * 6 * 6) {
		digit := func(step int64) int64 { return i/step%6 - 2 }
		out = append(out, api.Store{Vars: []int64{digit(1), digit(6)}, Arrays: [][]int64{{digit(36)}, {digit(216), digit(1296)}}})
	}
	return out
}

// has is env.Has of a normal form; there are many stores, and most are told by their first number.
func has(e api.Env, s api.Store) bool {
	return !e.Dead && slices.EqualFunc(e.Vars, s.Vars, num.Has) &&
		slices.EqualFunc(e.Arrays, s.Arrays, func(a api.Num, l []int64) bool {
			return !slices.ContainsFunc(l, func(v int64) bool { return !num.Has(a, v) })
		})
}

// result is what an expression makes of a store: its value, or the site that faults.
type result[T any] struct {
	value T
	site  int
}

func resultsOf[T any](p api.Prog, stores []api.Store, run func(p api.Prog, s api.Store, place int) (T, int, api.Errno)) []result[T] {
	out := make([]result[T], len(stores))
	for i, s := range stores {
		v, site, code := run(p, s, here)
		if code != api.OK {
			panic(code)
		}
		out[i] = result[T]{v, site}
	}
	return out
}

// below wants an answer that is in its normal form and below the Env.
func below(t *testing.T, what string, e, left api.Env) {
	t.Helper()
	if !alike(left, env.Norm(left)) || !env.Leq(left, e) {
		t.Fatalf("P17.3: %s in %v leaves %v, which isn't below it or isn't normal", what, e, left)
	}
}

// P17.3, by counting: of every store of the Env in which the expression is in c nothing is lost.
func TestBackOfEveryStore(t *testing.T) {
	m := rand.New(rand.NewSource(173))
	nums, stores := smallNums(), smallStores()
	some := func() api.Num { return nums[m.Intn(len(nums))] }
	kept, gone := 0, 0
	for _, text := range expressions() {
		p := mustText(t, few+"x := "+text+";")
		results := resultsOf(p, stores, eval.Int)
		for range 60 {
			e, c := env.Norm(of(some(), some(), some(), some())), num.Norm(some())
			left, _ := Back(p, e, here, c)
			below(t, text, e, left)
			for i, s := range stores {
				r := results[i]
				if !has(e, s) {
					continue
				}
				switch stays := has(left, s); {
				case r.site < 0 && num.Has(c, r.value) && !stays:
					t.Fatalf("P17.3: %s in %v and %v leaves %v, without %v, which makes it %d", text, e, c, left, s, r.value)
				case stays:
					kept++
				default:
					gone++
				}
			}
		}
	}
	if kept < 5000 || gone < 5000 {
		t.Errorf("only %d stores are kept and %d gone", kept, gone)
	}
}

// P17.3, by counting: of every store of the Env in which the condition has the sense nothing is lost, and each site that faults is told.
func TestFilterOfEveryStore(t *testing.T) {
	m := rand.New(rand.NewSource(174))
	nums, stores := smallNums(), smallStores()
	some := func() api.Num { return nums[m.Intn(len(nums))] }
	var kept, gone, faults int
	for _, text := range conditions() {
		p := mustText(t, few+"assert "+text+";")
		results := resultsOf(p, stores, eval.Bool)
		for turn := range 60 {
			e, sense := env.Norm(of(some(), some(), some(), some())), turn%2 == 0
			left, told, _ := Filter(p, e, here, sense)
			below(t, text, e, left)
			if !rising(told) {
				t.Fatalf("P17.2: %s in %v tells %v", text, e, told)
			}
			for i, s := range stores {
				r := results[i]
				if !has(e, s) {
					continue
				}
				switch stays := has(left, s); {
				case r.site >= 0 && !slices.Contains(told, r.site):
					t.Fatalf("P17.3: %s in %v: %v faults at %d, told are %v", text, e, s, r.site, told)
				case r.site >= 0:
					faults++
				case r.value == sense && !stays:
					t.Fatalf("P17.3: %s in %v and %v leaves %v, without %v", text, e, sense, left, s)
				case stays:
					kept++
				default:
					gone++
				}
			}
		}
	}
	if kept < 5000 || gone < 5000 || faults < 1500 {
		t.Errorf("only %d stores are kept, %d gone, and %d faults", kept, gone, faults)
	}
}

func rising(sites []int) bool {
	for i := range sites {
		if i > 0 && sites[i] <= sites[i-1] {
			return false
		}
	}
	return true
}

// sample is a number of a, which has some, mostly at or near an end.
func sample(m *rand.Rand, a api.Num) int64 {
	a = num.Norm(a)
	switch m.Intn(4) {
	case 0:
		return a.I.Lo
	case 1:
		return a.I.Hi
	}
	v := min(max(numberByChance(m), a.I.Lo), a.I.Hi)
	if some := num.Meet(a, num.Range(v, maxInt)); !some.Bot {
		return some.I.Lo
	}
	return a.I.Hi
}

// store is one of e's, which isn't dead.
func (m *maker) store(p api.Prog, e api.Env) api.Store {
	var s api.Store
	for _, a := range e.Vars {
		s.Vars = append(s.Vars, sample(m.Rand, a))
	}
	for i, a := range e.Arrays {
		var l []int64
		for range p.Arrays[i].Len {
			l = append(l, sample(m.Rand, a))
		}
		s.Arrays = append(s.Arrays, l)
	}
	return s
}

// holdSample holds Back and Filter at all places against some stores of e; it tells how many faulted and how many had to be kept.
func holdSample(t *testing.T, m *maker, p api.Prog, e api.Env) (faults, kept int) {
	t.Helper()
	e = env.Norm(e)
	if e.Dead {
		return 0, 0
	}
	for range 4 {
		s := m.store(p, e)
		for place, n := range p.Nodes {
			switch {
			case isNumber2(n):
				v, site, _ := eval.Int(p, s, place)
				if site >= 0 {
					continue
				}
				c := num.Join(m.num(), one(v))
				if left, _ := Back(p, e, place, c); !has(left, s) || !env.Leq(left, e) {
					t.Errorf("P17.3: Back at %d in %v and %v leaves %v, without %v, which makes it %d", place, e, c, left, s, v)
				}
				kept++
			case isCondition2(n):
				v, site, _ := eval.Bool(p, s, place)
				for _, sense := range []bool{true, false} {
					left, told, _ := Filter(p, e, place, sense)
					switch {
					case site >= 0 && !slices.Contains(told, site):
						t.Errorf("P17.3: Filter at %d in %v: %v faults at %d, told are %v", place, e, s, site, told)
					case site >= 0:
						faults++
					case v == sense && !has(left, s) || !env.Leq(left, e):
						t.Errorf("P17.3: Filter at %d in %v and %v leaves %v, without %v", place, e, sense, left, s)
					default:
						kept++
					}
				}
			}
		}
	}
	return faults, kept
}

// P17.3, by chance: Envs of any numbers, and some of their stores.
func TestSomeStoresOfAnyEnvs(t *testing.T) {
	m, faults, kept := newMaker(175), 0, 0
	for range 1200 {
		p := m.program()
		f, k := holdSample(t, m, p, m.env(p))
		faults, kept = faults+f, kept+k
		if t.Failed() {
			t.Fatalf("that was %v", p.Nodes)
		}
	}
	if faults < 3000 || kept < 5000 {
		t.Errorf("only %d faults and %d that are kept", faults, kept)
	}
}

// P17.3 at the ends of the range: stores of numbers that wrap.
func TestEndsOfTheRange(t *testing.T) {
	ends := []int64{minInt, minInt + 1, -2, -1, 0, 1, 2, maxInt - 1, maxInt}
	for _, text := range []string{"-x", "x + y", "x - y", "x * y", "x / y", "x % y", "-x - y", "b[x + y]", "b[-x]", "(x - 1) % (y + 1)"} {
		p := mustText(t, few+"assert "+text+" < y;")
		number := here + 1
		for i, lo := range ends {
			for _, hi := range ends[i:] {
				for _, y := range ends {
					e := of(num.Range(lo, hi), num.Range(min(y, 0), max(y, 0)), one(3), one(3))
					for _, s := range storesOf(ends, e) {
						if v, site, _ := eval.Int(p, s, number); site < 0 {
							if left, _ := Back(p, e, number, one(v)); !env.Has(left, s) {
								t.Errorf("P17.3: %s in %v and %d leaves %v, without %v", text, e, v, left, s)
							}
						}
						if v, site, _ := eval.Bool(p, s, here); site < 0 {
							if left, _, _ := Filter(p, e, here, v); !env.Has(left, s) {
								t.Errorf("P17.3: %s < y in %v and %v leaves %v, without %v", text, e, v, left, s)
							}
						}
					}
				}
			}
		}
	}
}

// storesOf are those of e whose scalars are among some numbers.
func storesOf(numbers []int64, e api.Env) []api.Store {
	var out []api.Store
	for _, x := range numbers {
		for _, y := range numbers {
			if s := (api.Store{Vars: []int64{x, y}, Arrays: [][]int64{{3}, {3, 3}}}); env.Has(e, s) {
				out = append(out, s)
			}
		}
	}
	return out
}
