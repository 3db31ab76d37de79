package guard

import (
	"math/rand"
	"slices"
	"testing"

	"winnow/aeval"
	"winnow/api"
	"winnow/check"
	"winnow/env"
	"winnow/eval"
	"winnow/inv"
	"winnow/num"
)

// words says the chapter a second time, to the letter: what a node holds is cut out of the tree first, variables are found by their names, each case that leaves nothing is asked for, and each sense is gone through anew.
type words struct{ p api.Prog }

// held is where what a node holds stands.
func (w words) held(place int) []int {
	var places []int
	for i := place + 1; i < len(w.p.Nodes) && w.p.Nodes[i].Depth > w.p.Nodes[place].Depth; i++ {
		if w.p.Nodes[i].Depth == w.p.Nodes[place].Depth+1 {
			places = append(places, i)
		}
	}
	return places
}

func (w words) eval(e api.Env, place int) (api.Num, []int) {
	value, sites, code := aeval.Eval(w.p, e, place)
	if code != api.OK {
		panic(code)
	}
	return value, sites
}

// back is what Back has to answer at a place that is a number.
func (w words) back(e api.Env, place int, c api.Num) api.Env {
	e = env.Norm(e)
	if e.Dead {
		return lost()
	}
	if v, _ := w.eval(e, place); num.Meet(v, c) == num.Bot() {
		return lost()
	}
	n, held := w.p.Nodes[place], w.held(place)
	switch {
	case n.Kind == api.KNum:
		return e
	case n.Kind == api.KRead:
		i := slices.Index(w.p.Scalars, n.Name)
		return env.SetVar(e, i, num.Meet(e.Vars[i], c))
	case n.Kind == api.KLoad:
		i := slices.IndexFunc(w.p.Arrays, func(a api.Array) bool { return a.Name == n.Name })
		f := w.back(e, held[0], num.Range(0, int64(w.p.Arrays[i].Len-1)))
		if f.Dead || w.p.Arrays[i].Len > 1 {
			return f
		}
		return env.SetArray(f, i, num.Meet(f.Arrays[i], c))
	case n.Op == api.OpNeg:
		opposite, _ := num.Apply(api.OpNeg, c, num.Top())
		return w.back(e, held[0], opposite)
	}
	a, _ := w.eval(e, held[0])
	b, _ := w.eval(e, held[1])
	if n.Op == api.OpDiv || n.Op == api.OpRem {
		b = num.NonZero(b)
	}
	first, second, _ := inv.Solve(n.Op, a, b, c)
	if first.Bot || second.Bot {
		return lost()
	}
	return w.back(w.back(e, held[0], first), held[1], second)
}

// filter is what Filter has to answer at a place that is a condition.
func (w words) filter(e api.Env, place int, sense bool) (api.Env, []int) {
	left, sites := w.condition(env.Norm(e), place, sense)
	slices.Sort(sites)
	return left, slices.Compact(sites)
}

func (w words) condition(e api.Env, place int, sense bool) (api.Env, []int) {
	if e.Dead {
		return lost(), nil
	}
	n, held := w.p.Nodes[place], w.held(place)
	switch {
	case n.Kind == api.KBool && (n.Num == 1) == sense:
		return e, nil
	case n.Kind == api.KBool:
		return lost(), nil
	case n.Op == api.OpNot:
		return w.condition(e, held[0], !sense)
	case n.Op == api.OpAnd && sense, n.Op == api.OpOr && !sense:
		f, s := w.condition(e, held[0], sense)
		g, t := w.condition(f, held[1], sense)
		return g, append(s, t...)
	case n.Op == api.OpAnd, n.Op == api.OpOr:
		f, s := w.condition(e, held[0], sense)
		g, _ := w.condition(e, held[0], !sense)
		h, t := w.condition(g, held[1], sense)
		return env.Join(f, h), append(s, t...)
	}
	return w.comparison(e, place, sense)
}

func (w words) comparison(e api.Env, place int, sense bool) (api.Env, []int) {
	op, held := w.p.Nodes[place].Op, w.held(place)
	l, s := w.eval(e, held[0])
	if l.Bot {
		return lost(), s
	}
	r, t := w.eval(e, held[1])
	s = append(s, t...)
	if r.Bot {
		return lost(), s
	}
	if !sense {
		op, _ = inv.Negate(op)
	}
	first, second, _ := inv.Compare(op, l, r)
	if first.Bot || second.Bot {
		return lost(), s
	}
	return w.back(w.back(e, held[0], first), held[1], second), s
}

// maker makes programs and Envs by chance.
type maker struct {
	*rand.Rand
	ns      []api.Node
	scalars []string
	arrays  []string
}

func newMaker(seed int64) *maker { return &maker{Rand: rand.New(rand.NewSource(seed))} }

func (m *maker) put(depth int, kind api.NodeKind, n api.Node) {
	n.Depth, n.Kind, n.At = depth, kind, m.Intn(99)
	m.ns = append(m.ns, n)
}

func (m *maker) named(names []string) api.Node { return api.Node{Name: names[m.Intn(len(names))]} }

func (m *maker) declarations() {
	for range 1 + m.Intn(5) {
		name := string(rune('a' + len(m.ns)))
		if len(m.arrays) < 3 && m.Intn(2) == 0 {
			// Arrays of one element are often, as they alone are gone back through.
			m.put(1, api.KArray, api.Node{Name: name, Num: 1 + m.Int63n(2)*m.Int63n(8)})
			m.arrays = append(m.arrays, name)
		} else {
			m.put(1, api.KVar, api.Node{Name: name})
			m.scalars = append(m.scalars, name)
		}
	}
}

func (m *maker) number(depth, left int) {
	choice := m.Intn(9)
	switch {
	case left > 0 && choice < 2 && len(m.arrays) > 0:
		m.put(depth, api.KLoad, m.named(m.arrays))
		m.number(depth+1, left-1-m.Intn(left))
	case left > 0 && choice == 2:
		m.put(depth, api.KUnary, api.Node{Op: api.OpNeg})
		m.number(depth+1, left-1)
	case left > 0 && choice < 6:
		m.put(depth, api.KBinary, api.Node{Op: api.OpAdd + api.Op(m.Intn(5))})
		m.number(depth+1, left-1)
		m.number(depth+1, left-1)
	case m.Intn(3) > 0 && len(m.scalars) > 0:
		m.put(depth, api.KRead, m.named(m.scalars))
	case m.Intn(6) == 0:
		m.put(depth, api.KNum, api.Node{Num: numberByChance(m.Rand) & maxInt})
	default:
		m.put(depth, api.KNum, api.Node{Num: m.Int63n(5)})
	}
}

func (m *maker) condition(depth, left int) {
	switch choice := m.Intn(10); {
	case left > 0 && choice < 5:
		m.put(depth, api.KBinary, api.Node{Op: api.OpAnd + api.Op(m.Intn(2))})
		m.condition(depth+1, left-1)
		m.condition(depth+1, left-1)
	case left > 0 && choice == 5:
		m.put(depth, api.KUnary, api.Node{Op: api.OpNot})
		m.condition(depth+1, left-1)
	case choice == 6:
		m.put(depth, api.KBool, api.Node{Num: m.Int63n(2)})
	default:
		m.put(depth, api.KBinary, api.Node{Op: api.OpLt + api.Op(m.Intn(6))})
		m.number(depth+1, m.Intn(3))
		m.number(depth+1, m.Intn(3))
	}
}

func (m *maker) statement() {
	switch choice := m.Intn(4); {
	case choice == 0 && len(m.scalars) > 0:
		m.put(1, api.KAssign, m.named(m.scalars))
		m.number(2, 1+m.Intn(4))
	case choice == 1 && len(m.arrays) > 0:
		m.put(1, api.KStore, m.named(m.arrays))
		m.number(2, m.Intn(3))
		m.number(2, m.Intn(4))
	default:
		kind := []api.NodeKind{api.KAssert, api.KIf, api.KWhile}[m.Intn(3)]
		m.put(1, kind, api.Node{})
		m.condition(2, m.Intn(4))
		if kind != api.KAssert {
			m.put(2, api.KBlock, api.Node{})
		}
	}
}

// program makes trees until check takes one: many have too many sites.
func (m *maker) program() api.Prog {
	for {
		m.ns, m.scalars, m.arrays = nil, nil, nil
		m.declarations()
		for range 1 + m.Intn(3) {
			m.statement()
		}
		if p, err := check.Program(m.ns); err == nil {
			return p
		}
	}
}

// numberByChance is small, near a power of two, or of any size.
func numberByChance(m *rand.Rand) int64 {
	switch m.Intn(3) {
	case 0:
		return int64(m.Intn(41) - 20)
	case 1:
		return 1<<m.Intn(64) + int64(m.Intn(7)-3)
	}
	return int64(m.Uint64()) >> m.Intn(64)
}

// num is a Num as it may be handed in; many are small, so that they are indices and divisors now and then.
func (m *maker) num() api.Num {
	lo, hi := m.Int63n(8)-2, m.Int63n(8)-2
	if m.Intn(3) == 0 {
		lo, hi = numberByChance(m.Rand), numberByChance(m.Rand)
	}
	if lo > hi && m.Intn(40) > 0 {
		lo, hi = hi, lo
	}
	a := in(lo, hi)
	switch m.Intn(8) {
	case 0:
		a.C = api.Cong{R: uint64(lo)}
	case 1, 2:
		a.C = api.Cong{M: 1 << m.Intn(4) * []uint64{1, 3}[m.Intn(2)], R: uint64(lo) & (1<<62 - 1)}
	}
	a.Bot = m.Intn(100) == 0
	return a
}

func (m *maker) env(p api.Prog) api.Env {
	e := api.Env{Dead: m.Intn(40) == 0}
	for range p.Scalars {
		e.Vars = append(e.Vars, m.num())
	}
	for range p.Arrays {
		e.Arrays = append(e.Arrays, m.num())
	}
	return e
}

// kindOf is what became of an Env, for counting.
func kindOf(form, left api.Env) string {
	switch {
	case form.Dead:
		return "dead before"
	case left.Dead:
		return "nothing is left"
	case alike(form, left):
		return "all is left"
	}
	return "some is left"
}

// holdAll holds Back and Filter at all places against the words, and counts what there was.
func holdAll(t *testing.T, m *maker, p api.Prog, e api.Env, seen map[string]int) {
	t.Helper()
	form := env.Norm(e)
	for place, n := range p.Nodes {
		switch {
		case isNumber2(n):
			c := m.num()
			left := words{p}.back(e, place, c)
			wantBack(t, p, e, place, c, left)
			wantBack(t, p, form, place, num.Norm(c), left)
			seen["Back: "+kindOf(form, left)]++
			refuseFilter(t, p, e, place, api.ErrArg)
		case isCondition2(n):
			for _, sense := range []bool{true, false} {
				left, told := words{p}.filter(e, place, sense)
				wantFilter(t, p, e, place, sense, left, told...)
				wantFilter(t, p, form, place, sense, left, told...)
				seen["Filter: "+kindOf(form, left)]++
				if len(told) > 1 {
					seen["Filter: several sites, "+kindOf(form, left)]++
				}
			}
			refuseBack(t, p, e, place, api.ErrArg)
		default:
			refuseBoth(t, p, e, place, api.ErrArg)
		}
	}
}

func TestByChance(t *testing.T) {
	m, seen := newMaker(171), map[string]int{}
	for range 2500 {
		p := m.program()
		holdAll(t, m, p, m.env(p), seen)
		if t.Failed() {
			t.Fatalf("that was %v", p.Nodes)
		}
	}
	for _, call := range []string{"Back: ", "Filter: ", "Filter: several sites, "} {
		for _, kind := range []string{"dead before", "nothing is left", "all is left", "some is left"} {
			if seen[call+kind] < 50 && call+kind != "Filter: several sites, dead before" {
				t.Errorf("%s%s: only %d", call, kind, seen[call+kind])
			}
		}
	}
}

// P17.2, P17.3: in an Env of one store all or nothing is left, as the condition says, and the site that faults alone is told; so with Back and the number that the expression is.
func TestOneStore(t *testing.T) {
	m, faults, values := newMaker(172), 0, 0
	for range 2500 {
		p := m.program()
		e, s := m.single(p)
		for place, n := range p.Nodes {
			switch {
			case isNumber2(n):
				v, site, _ := eval.Int(p, s, place)
				holdOneNumber(t, p, e, place, v, site)
			case isCondition2(n):
				v, site, _ := eval.Bool(p, s, place)
				if site >= 0 {
					wantFilter(t, p, e, place, true, lost(), site)
					wantFilter(t, p, e, place, false, lost(), site)
					faults++
				} else {
					wantFilter(t, p, e, place, v, e)
					wantFilter(t, p, e, place, !v, lost())
					values++
				}
			}
		}
		if t.Failed() {
			t.Fatalf("that was %v", p.Nodes)
		}
	}
	if faults < 1000 || values < 2000 {
		t.Errorf("only %d faults and %d values", faults, values)
	}
}

// single is a store, and the Env of it alone.
func (m *maker) single(p api.Prog) (api.Env, api.Store) {
	var e api.Env
	var s api.Store
	some := func() int64 {
		if m.Intn(4) == 0 {
			return numberByChance(m.Rand)
		}
		return m.Int63n(6) - 1
	}
	for range p.Scalars {
		v := some()
		e.Vars, s.Vars = append(e.Vars, num.Const(v)), append(s.Vars, v)
	}
	for _, a := range p.Arrays {
		v := some()
		e.Arrays, s.Arrays = append(e.Arrays, num.Const(v)), append(s.Arrays, slices.Repeat([]int64{v}, a.Len))
	}
	return e, s
}

// holdOneNumber holds Back at an expression that is v in the one store of e, or faults.
func holdOneNumber(t *testing.T, p api.Prog, e api.Env, place int, v int64, site int) {
	t.Helper()
	if site >= 0 {
		wantBack(t, p, e, place, all(), lost())
		return
	}
	wantBack(t, p, e, place, one(v), e)
	wantBack(t, p, e, place, all(), e)
	wantBack(t, p, e, place, no(), lost())
	if v < maxInt {
		wantBack(t, p, e, place, num.Range(v+1, maxInt), lost())
		wantBack(t, p, e, place, in(v, v+1), e)
	}
	if v > minInt {
		wantBack(t, p, e, place, num.Range(minInt, v-1), lost())
	}
}

func FuzzAll(f *testing.F) {
	f.Add(int64(1), "var x; array a[1]; assert a[x] / (x - 3) < x && !(x == 2 || a[0] > 4);", int64(-3), int64(9), uint64(2), uint64(1), false)
	f.Add(int64(2), everyKind, int64(0), int64(2), uint64(1), uint64(0), false)
	f.Add(int64(3), example, int64(-1), int64(1), uint64(0), uint64(1), true)
	f.Fuzz(func(t *testing.T, seed int64, text string, lo, hi int64, c, r uint64, dead bool) {
		m := newMaker(seed)
		p, err := check.Text(text)
		if err != nil || len(p.Nodes) > 60 {
			p = m.program()
		}
		e := m.env(p)
		e.Dead = dead
		if len(e.Vars) > 0 {
			e.Vars[m.Intn(len(e.Vars))] = nu(lo, hi, c, r)
		}
		holdAll(t, m, p, e, map[string]int{})
		holdSample(t, m, p, e)
	})
}
