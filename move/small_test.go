package move

import (
	"math/rand"
	"slices"
	"testing"

	"winnow/api"
	"winnow/env"
	"winnow/num"
)

// few are the variables of which every store is counted.
const few = "var x; var y; array a[1]; array b[2]; "

func statements() []string {
	return []string{
		"x := 3;", "x := y;", "x := x + 1;", "x := x - y;", "x := x * y;", "x := x / y;", "y := x % y;", "x := b[x];", "y := a[x] + b[y];", "x := b[b[x]];", "x := 4 / x / y;", "x := 4 / (x - y);", "x := -a[0] % (b[0] - 1);", "x := b[x] / b[y];", "y := b[4 / x];", "x := 9223372036854775807 + x;",
		"a[0] := x;", "a[x] := y;", "a[x] := a[x] + 1;", "a[a[0]] := x;", "a[b[x]] := b[y];", "b[0] := x;", "b[x] := y;", "b[x] := x;", "b[x] := b[x] * 2;", "b[b[x]] := b[y] - 1;", "b[x - 1] := 4 / y;", "b[4 / x] := 4 / y;", "b[x] := 6 / x;", "b[1 - x] := a[y] % x;", "a[x * y] := b[x + y];",
		"input x;", "input y;", "skip;",
		"assert true;", "assert false;", "assert x < y;", "assert x == y;", "assert x / y > 0;", "assert x != 0 && 4 / x > 1;", "assert x == 0 || 4 / x > 1;", "assert b[x] < b[y];", "assert (x < 0 || x > 1) || b[x] == y;", "assert !(x < y && a[x] > 0);",
		"if x < y { }", "if b[x] > 0 && 4 / y < 3 { skip; } else { }", "while x / y == 1 || b[x] < y { }", "while !(a[x] < b[y] || x % y == 0) { skip; }", "if x > 0 && (y > 0 && 4 / (x - y) < 2) { }", "while x < 1 || (y < 1 || b[x - y] > 0) { }", "while x == y { }", "if (x == 0 || y == 0) && x / y < 3 { }",
	}
}

// smallNums are Nums of numbers from -2 to 3 with small classes.
func smallNums() []api.Num {
	var out []api.Num
	for lo := int64(-2); lo < 4; lo++ {
		for hi := lo; hi < 4; hi++ {
			out = append(out, in(lo, hi), nu(lo, hi, 2, uint64(lo&1)), nu(lo, hi, 3, 4), nu(lo, hi, 0, uint64(hi)))
		}
	}
	return append(out, no(), in(1, 0), in(-2, 3), in(-2, 3), in(-2, 3), in(-2, 3))
}

// smallStores are all stores of x, y and the elements from -2 to 3.
func smallStores() []api.Store {
	var out []api.Store
	for i := range int64(6 * 6 * 6 * 6 * 6) {
		digit := func(step int64) int64 { return i/step%6 - 2 }
		out = append(out, api.Store{Vars: []int64{digit(1), digit(6)}, Arrays: [][]int64{{digit(36)}, {digit(216), digit(1296)}}})
	}
	return out
}

// has is env.Has of a normal form; there are many stores, and most are told by their first number.
func has(e api.Env, s api.Store) bool {
	return !e.Dead && slices.EqualFunc(e.Vars, s.Vars, num.Has) &&
		slices.EqualFunc(e.Arrays, s.Arrays, func(a api.Num, l []int64) bool {
			return !slices.ContainsFunc(l, func(v int64) bool { return !num.Has(a, v) })
		})
}

// result is what a step makes of a store.
type result struct {
	after api.Store
	gone  bool
	site  int
}

// counting holds an edge against every store of small Envs.
type counting struct {
	*rand.Rand
	nums    []api.Num
	stores  []api.Store
	steps   int // stores that became others
	into    int // stores that were led into the Env behind
	faults  int
	refused int // stores that Pre and Seed leave out
}

func (c *counting) some() api.Num { return c.nums[c.Intn(len(c.nums))] }

func (c *counting) env() api.Env { return env.Norm(of(c.some(), c.some(), c.some(), c.some())) }

// results are what the step makes of all stores, an input reading one of some numbers.
func (c *counting) results(p api.Prog, what api.Edge) []result {
	out := make([]result, len(c.stores))
	for i, s := range c.stores {
		out[i].after, out[i].gone, out[i].site = did(p, what, s, []int64{-2, 0, 3, minInt, maxInt}[c.Intn(5)])
	}
	return out
}

// hold holds Post, Pre and Seed of some Envs against what the step makes of each of their stores.
func (c *counting) hold(t *testing.T, p api.Prog, edge int, text string, results []result) {
	t.Helper()
	e := c.env()
	after, told, _ := Post(p, edge, e)
	f := c.env()
	if !after.Dead && c.Intn(2) == 0 {
		f = env.Norm(api.Env{Vars: after.Vars, Arrays: list(c.some(), after.Arrays[1])})
	}
	left, _ := Pre(p, edge, e, f)
	below(t, p, e, left)
	seeds := map[int]api.Env{}
	for _, site := range Holds(p, edge) {
		seeds[site], _ = Seed(p, edge, e, site)
		below(t, p, e, seeds[site])
	}
	for i, s := range c.stores {
		if !has(e, s) {
			continue
		}
		switch r := results[i]; {
		case r.site >= 0 && !slices.Contains(told, r.site):
			t.Fatalf("P18.5: %s in %v: %v faults at %d, told are %v", text, e, s, r.site, told)
		case r.site >= 0 && !has(seeds[r.site], s):
			t.Fatalf("P18.5: %s in %v: %v faults at %d, Seed is %v", text, e, s, r.site, seeds[r.site])
		case r.site >= 0:
			c.faults++
		case r.gone && !has(after, r.after):
			t.Fatalf("P18.5: %s in %v: %v becomes %v, Post is %v", text, e, s, r.after, after)
		case r.gone && has(f, r.after) && !has(left, s):
			t.Fatalf("P18.5: %s in %v and %v: %v becomes %v, Pre is %v", text, e, f, s, r.after, left)
		case r.gone && has(f, r.after):
			c.into++
		case !has(left, s):
			c.refused++
		}
		if results[i].gone {
			c.steps++
		}
	}
	if !rising(told) {
		t.Fatalf("P18.1: %s in %v tells %v", text, e, told)
	}
}

func rising(sites []int) bool {
	for i := range sites {
		if i > 0 && sites[i] <= sites[i-1] {
			return false
		}
	}
	return true
}

// P18.5, by counting: of every store of the Envs nothing is lost, and each site that faults is told.
func TestEveryStore(t *testing.T) {
	c := counting{Rand: rand.New(rand.NewSource(183)), nums: smallNums(), stores: smallStores()}
	for _, text := range statements() {
		p := mustText(t, few+text)
		for edge, what := range edgesOf(t, p) {
			results := c.results(p, what)
			for range 100 {
				c.hold(t, p, edge, text, results)
			}
		}
	}
	if c.steps < 50000 || c.into < 5000 || c.faults < 10000 || c.refused < 10000 {
		t.Errorf("only %d steps, %d of them into the Env behind, %d faults and %d left out", c.steps, c.into, c.faults, c.refused)
	}
}

// sample is a number of a, which has some, mostly at or near an end.
func sample(m *rand.Rand, a api.Num) int64 {
	a = num.Norm(a)
	switch m.Intn(4) {
	case 0:
		return a.I.Lo
	case 1:
		return a.I.Hi
	}
	v := min(max(numberByChance(m), a.I.Lo), a.I.Hi)
	if some := num.Meet(a, num.Range(v, maxInt)); !some.Bot {
		return some.I.Lo
	}
	return a.I.Hi
}

// store is one of e's, which isn't dead.
func (m *maker) store(p api.Prog, e api.Env) api.Store {
	var s api.Store
	for _, a := range e.Vars {
		s.Vars = append(s.Vars, sample(m.Rand, a))
	}
	for i, a := range e.Arrays {
		var l []int64
		for range p.Arrays[i].Len {
			l = append(l, sample(m.Rand, a))
		}
		s.Arrays = append(s.Arrays, l)
	}
	return s
}

// around is an Env that has a store, with much or little beside it.
func (m *maker) around(s api.Store) api.Env {
	var e api.Env
	for _, v := range s.Vars {
		e.Vars = append(e.Vars, num.Join(m.num(), one(v)))
	}
	for _, l := range s.Arrays {
		a := m.num()
		for _, v := range l {
			a = num.Join(a, one(v))
		}
		e.Arrays = append(e.Arrays, a)
	}
	return e
}

// holdSample holds all edges against some stores of e; it tells how many faulted and how many went on.
func holdSample(t *testing.T, m *maker, p api.Prog, e api.Env) (faults, steps int) {
	t.Helper()
	e = env.Norm(e)
	if e.Dead {
		return 0, 0
	}
	for edge, what := range edgesOf(t, p) {
		after, told, _ := Post(p, edge, e)
		for range 4 {
			s := m.store(p, e)
			r, gone, site := did(p, what, s, numberByChance(m.Rand))
			switch {
			case site >= 0:
				if left, _ := Seed(p, edge, e, site); !has(left, s) || !slices.Contains(told, site) {
					t.Errorf("P18.5: along %d in %v: %v faults at %d, told are %v, Seed is %v", edge, e, s, site, told, left)
				}
				faults++
			case gone:
				f := m.around(r)
				if left, _ := Pre(p, edge, e, f); !has(left, s) || !has(after, r) {
					t.Errorf("P18.5: along %d in %v and %v: %v becomes %v, Pre is %v, Post %v", edge, e, f, s, r, left, after)
				}
				steps++
			}
		}
	}
	return faults, steps
}

// P18.5, by chance: Envs of any numbers, and some of their stores.
func TestSomeStoresOfAnyEnvs(t *testing.T) {
	m, faults, steps := newMaker(184), 0, 0
	for range 3000 {
		p := m.program()
		f, s := holdSample(t, m, p, m.env(p))
		faults, steps = faults+f, steps+s
		if t.Failed() {
			t.Fatalf("that was %v", p.Nodes)
		}
	}
	if faults < 3000 || steps < 5000 {
		t.Errorf("only %d faults and %d steps", faults, steps)
	}
}
