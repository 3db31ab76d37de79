package aeval

import (
	"math/rand"
	"slices"
	"testing"

	"winnow/api"
	"winnow/check"
	"winnow/env"
	"winnow/eval"
	"winnow/num"
)

// expressions are of a scalar x, a scalar y and an array a of 2.
func expressions() []string {
	return []string{
		"x", "5", "-x", "x + y", "x - y", "x * y", "x / y", "x % y", "a[x]", "a[x - y]", "a[a[x]]", "a[x] / a[y]", "a[x / y] + 1", "x % (y % 3)", "a[0] * a[1] - x", "-(x / (y - 1))", "a[x * x % 3]",
		"1 / (x - 1) / (y - 2)", "x / y * (y / x)", "a[-y]", "x % y % x", "9223372036854775807 + x - y", "(x + 9223372036854775807) * y", "(0 - 9223372036854775807 - x) / (y - 2)", "a[x] % 2 + a[y % 2] * 4",
	}
}

// smallNums are Nums of numbers from -2 to 3 with small classes, many of them otherwise than in their normal form.
func smallNums() []api.Num {
	out := []api.Num{no(), in(1, 0)}
	for lo := int64(-2); lo < 4; lo++ {
		for hi := lo; hi < 4; hi++ {
			out = append(out, in(lo, hi), nu(lo, hi, 2, uint64(lo&1)), nu(lo, hi, 3, 4), nu(lo, hi, 0, uint64(hi)))
		}
	}
	return out
}

// smallStores are all stores of x, y and a from -2 to 3.
func smallStores() []api.Store {
	var out []api.Store
	for i := range int64(6 * 6 * 6 * 6) {
		out = append(out, api.Store{Vars: []int64{i%6 - 2, i/6%6 - 2}, Arrays: [][]int64{{i/36%6 - 2, i/216%6 - 2}}})
	}
	return out
}

// outcome is what an expression does in a store.
type outcome struct {
	value int64
	site  int
}

// P16.2, by counting: of every store of the Env the value is in the Num, or the fault's site is told.
func TestEveryStoreOfSmallEnvs(t *testing.T) {
	m := rand.New(rand.NewSource(163))
	nums, stores := smallNums(), smallStores()
	some := func() api.Num { return nums[m.Intn(len(nums))] }
	faults, values := 0, 0
	for _, text := range expressions() {
		p := mustText(t, "var x; var y; array a[2]; x := "+text+";")
		outcomes := make([]outcome, len(stores))
		for i, s := range stores {
			v, site, code := eval.Int(p, s, 4)
			if code != api.OK {
				t.Fatalf("Int of %s: %v", text, code)
			}
			outcomes[i] = outcome{v, site}
		}
		for range 120 {
			e := both(list(some(), some()), list(some()))
			value, sites, code := Eval(p, e, 4)
			if code != api.OK || value != num.Norm(value) || !rising(sites) {
				t.Fatalf("P16.1: %s in %v: %v, %v, %v", text, e, value, sites, code)
			}
			for i, s := range stores {
				if !env.Has(e, s) {
					continue
				}
				switch o := outcomes[i]; {
				case o.site >= 0 && !slices.Contains(sites, o.site):
					t.Fatalf("P16.2: %s in %v: %v faults at %d, told are %v", text, e, s, o.site, sites)
				case o.site >= 0:
					faults++
				case !num.Has(value, o.value):
					t.Fatalf("P16.2: %s in %v: %v makes it %d, which isn't in %v", text, e, s, o.value, value)
				default:
					values++
				}
			}
		}
	}
	if faults < 5000 || values < 10000 {
		t.Errorf("only %d faults and %d values", faults, values)
	}
}

func rising(sites []int) bool {
	for i := range sites {
		if i > 0 && sites[i] <= sites[i-1] {
			return false
		}
	}
	return true
}

// sample is a number of a, which has some, mostly at or near an end.
func sample(m *rand.Rand, a api.Num) int64 {
	a = num.Norm(a)
	switch m.Intn(4) {
	case 0:
		return a.I.Lo
	case 1:
		return a.I.Hi
	}
	v := min(max(numberByChance(m), a.I.Lo), a.I.Hi)
	if some := num.Meet(a, num.Range(v, maxInt)); !some.Bot {
		return some.I.Lo
	}
	return a.I.Hi
}

// holdSample holds Eval at all numbers against some stores of e.
func holdSample(t *testing.T, m *maker, p api.Prog, e api.Env) (faults, values int) {
	t.Helper()
	e = env.Norm(e)
	if e.Dead {
		return 0, 0
	}
	for range 5 {
		var s api.Store
		for _, a := range e.Vars {
			s.Vars = append(s.Vars, sample(m.Rand, a))
		}
		for i, a := range e.Arrays {
			var l []int64
			for range p.Arrays[i].Len {
				l = append(l, sample(m.Rand, a))
			}
			s.Arrays = append(s.Arrays, l)
		}
		for place, n := range p.Nodes {
			if !isNumber2(n) {
				continue
			}
			value, sites, _ := Eval(p, e, place)
			switch v, site, _ := eval.Int(p, s, place); {
			case site >= 0 && !slices.Contains(sites, site):
				t.Errorf("P16.2: at %d in %v: %v faults at %d, told are %v", place, e, s, site, sites)
			case site >= 0:
				faults++
			case !num.Has(value, v):
				t.Errorf("P16.2: at %d in %v: %v makes it %d, which isn't in %v", place, e, s, v, value)
			default:
				values++
			}
		}
	}
	return faults, values
}

// P16.2, by chance: Envs of any numbers, and some of their stores.
func TestSomeStoresOfAnyEnvs(t *testing.T) {
	m, faults, values := &maker{Rand: rand.New(rand.NewSource(164))}, 0, 0
	for range 1500 {
		p := m.program()
		f, v := holdSample(t, m, p, m.env(p))
		faults, values = faults+f, values+v
		if t.Failed() {
			t.Fatalf("that was %v", p.Nodes)
		}
	}
	if faults < 5000 || values < 5000 {
		t.Errorf("only %d faults and %d values", faults, values)
	}
}

// P16.2 at the ends of the range: stores of numbers that wrap.
func TestEndsOfTheRange(t *testing.T) {
	ends := []int64{minInt, minInt + 1, -2, -1, 0, 1, 2, maxInt - 1, maxInt}
	for _, text := range []string{"-x", "x + y", "x - y", "x * y", "x / y", "x % y", "-x - y", "a[x + y]", "a[-x]", "a[x * y]", "(x - 1) % (y + 1)"} {
		p, err := check.Text("var x; var y; array a[2]; x := " + text + ";")
		if err != nil {
			t.Fatal(err)
		}
		for i, lo := range ends {
			for _, hi := range ends[i:] {
				for _, y := range ends {
					e := both(list(num.Range(lo, hi), num.Range(min(y, 0), max(y, 0))), list(one(3)))
					value, sites, _ := Eval(p, e, 4)
					for _, x := range ends {
						for _, z := range ends {
							s := api.Store{Vars: []int64{x, z}, Arrays: [][]int64{{3, 3}}}
							if !env.Has(e, s) {
								continue
							}
							if v, site, _ := eval.Int(p, s, 4); site >= 0 && !slices.Contains(sites, site) || site < 0 && !num.Has(value, v) {
								t.Errorf("P16.2: %s in %v: %v makes it %d, %d: %v, %v", text, e, s, v, site, value, sites)
							}
						}
					}
				}
			}
		}
	}
}
