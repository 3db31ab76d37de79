package aeval

import (
	"math/rand"
	"slices"
	"testing"

	"winnow/api"
	"winnow/check"
	"winnow/env"
	"winnow/eval"
	"winnow/num"
)

// words says the chapter a second time: what a node holds is cut out of the tree first, variables are found by their names, sites are counted, and the sites of all that was looked at are a list of its own on each way back.
type words struct {
	p api.Prog
	e api.Env
}

// held is where what a node holds stands.
func (w words) held(place int) []int {
	var places []int
	for i := place + 1; i < len(w.p.Nodes) && w.p.Nodes[i].Depth > w.p.Nodes[place].Depth; i++ {
		if w.p.Nodes[i].Depth == w.p.Nodes[place].Depth+1 {
			places = append(places, i)
		}
	}
	return places
}

// siteAt counts the sites ahead of a place.
func (w words) siteAt(place int) int {
	count := 0
	for _, n := range w.p.Nodes[:place] {
		if slices.Contains([]api.NodeKind{api.KStore, api.KLoad, api.KAssert}, n.Kind) || n.Op == api.OpDiv || n.Op == api.OpRem {
			count++
		}
	}
	return count
}

// declared is the Num of what has a name, and its length, if it is an array.
func (w words) declared(name string) (api.Num, int64) {
	scalars, arrays := 0, 0
	for _, n := range w.p.Nodes {
		switch {
		case n.Kind == api.KVar && n.Name == name:
			return num.Norm(w.e.Vars[scalars]), 0
		case n.Kind == api.KArray && n.Name == name:
			return num.Norm(w.e.Arrays[arrays]), n.Num
		case n.Kind == api.KVar:
			scalars++
		case n.Kind == api.KArray:
			arrays++
		}
	}
	panic(name + " isn't declared")
}

// eval is what Eval has to answer at a place that is a number.
func (w words) eval(place int) (api.Num, []int) {
	if w.e.Dead || slices.ContainsFunc(slices.Concat(w.e.Vars, w.e.Arrays), func(a api.Num) bool { return num.Norm(a).Bot }) {
		return num.Bot(), nil
	}
	value, sites := w.number(place)
	slices.Sort(sites)
	return value, slices.Compact(sites)
}

func (w words) number(place int) (api.Num, []int) {
	n, held := w.p.Nodes[place], w.held(place)
	switch {
	case n.Kind == api.KNum:
		return num.Const(n.Num), nil
	case n.Kind == api.KRead:
		value, _ := w.declared(n.Name)
		return value, nil
	case n.Kind == api.KLoad:
		return w.element(place, held[0])
	case n.Op == api.OpNeg:
		operand, sites := w.number(held[0])
		value, _ := num.Apply(api.OpNeg, operand, num.Top())
		return value, sites
	}
	l, sites := w.number(held[0])
	if l == num.Bot() {
		return l, sites
	}
	r, more := w.number(held[1])
	sites = append(sites, more...)
	if r == num.Bot() {
		return r, sites
	}
	if n.Op == api.OpDiv || n.Op == api.OpRem {
		if num.Leq(num.Const(0), r) {
			sites = append(sites, w.siteAt(place))
		}
		if r = num.NonZero(r); r == num.Bot() {
			return r, sites
		}
	}
	value, _ := num.Apply(n.Op, l, r)
	return value, sites
}

func (w words) element(place, index int) (api.Num, []int) {
	i, sites := w.number(index)
	if i == num.Bot() {
		return i, sites
	}
	value, length := w.declared(w.p.Nodes[place].Name)
	if i.I.Lo < 0 || i.I.Hi >= length {
		sites = append(sites, w.siteAt(place))
	}
	for v := range length {
		if num.Has(i, v) {
			return value, sites
		}
	}
	return num.Bot(), sites
}

// maker makes programs and Envs by chance.
type maker struct {
	*rand.Rand
	ns      []api.Node
	scalars []string
	arrays  []string
}

func (m *maker) put(depth int, kind api.NodeKind, n api.Node) {
	n.Depth, n.Kind, n.At = depth, kind, m.Intn(99)
	m.ns = append(m.ns, n)
}

func (m *maker) named(names []string) api.Node { return api.Node{Name: names[m.Intn(len(names))]} }

func (m *maker) declarations() {
	for range 1 + m.Intn(6) {
		name := string(rune('a' + len(m.ns)))
		if len(m.arrays) < 3 && m.Intn(2) == 0 {
			m.put(1, api.KArray, api.Node{Name: name, Num: 1 + m.Int63n(4)*m.Int63n(6)})
			m.arrays = append(m.arrays, name)
		} else {
			m.put(1, api.KVar, api.Node{Name: name})
			m.scalars = append(m.scalars, name)
		}
	}
}

func (m *maker) number(depth, left int) {
	choice := m.Intn(9)
	switch {
	case left > 0 && choice < 2 && len(m.arrays) > 0:
		m.put(depth, api.KLoad, m.named(m.arrays))
		m.number(depth+1, left-1-m.Intn(left))
	case left > 0 && choice == 2:
		m.put(depth, api.KUnary, api.Node{Op: api.OpNeg})
		m.number(depth+1, left-1)
	case left > 0 && choice < 6:
		m.put(depth, api.KBinary, api.Node{Op: api.OpAdd + api.Op(m.Intn(5))})
		m.number(depth+1, left-1)
		m.number(depth+1, left-1)
	case choice%2 == 0 && len(m.scalars) > 0:
		m.put(depth, api.KRead, m.named(m.scalars))
	case m.Intn(4) == 0:
		m.put(depth, api.KNum, api.Node{Num: numberByChance(m.Rand) & maxInt})
	default:
		m.put(depth, api.KNum, api.Node{Num: m.Int63n(5)})
	}
}

func (m *maker) statement() {
	switch choice := m.Intn(3); {
	case choice == 0 && len(m.scalars) > 0:
		m.put(1, api.KAssign, m.named(m.scalars))
		m.number(2, 1+m.Intn(4))
	case choice == 1 && len(m.arrays) > 0:
		m.put(1, api.KStore, m.named(m.arrays))
		m.number(2, m.Intn(3))
		m.number(2, m.Intn(4))
	default:
		m.put(1, []api.NodeKind{api.KAssert, api.KIf, api.KWhile}[m.Intn(3)], api.Node{})
		block := m.ns[len(m.ns)-1].Kind != api.KAssert
		m.put(2, api.KBinary, api.Node{Op: api.OpLt + api.Op(m.Intn(6))})
		m.number(3, m.Intn(4))
		m.number(3, m.Intn(4))
		if block {
			m.put(2, api.KBlock, api.Node{})
		}
	}
}

// program makes trees until check takes one: many have too many sites.
func (m *maker) program() api.Prog {
	for {
		m.ns, m.scalars, m.arrays = nil, nil, nil
		m.declarations()
		for range 1 + m.Intn(4) {
			m.statement()
		}
		if p, err := check.Program(m.ns); err == nil {
			return p
		}
	}
}

// numberByChance is small, near a power of two, or of any size.
func numberByChance(m *rand.Rand) int64 {
	switch m.Intn(3) {
	case 0:
		return int64(m.Intn(41) - 20)
	case 1:
		return 1<<m.Intn(64) + int64(m.Intn(7)-3)
	}
	return int64(m.Uint64()) >> m.Intn(64)
}

// num is a Num as it may be handed in; many are small, so that they are indices and divisors now and then.
func (m *maker) num() api.Num {
	lo, hi := m.Int63n(8)-2, m.Int63n(8)-2
	if m.Intn(3) == 0 {
		lo, hi = numberByChance(m.Rand), numberByChance(m.Rand)
	}
	if lo > hi && m.Intn(40) > 0 {
		lo, hi = hi, lo
	}
	a := in(lo, hi)
	switch m.Intn(8) {
	case 0, 1, 2:
		a.C = api.Cong{R: uint64(lo)}
	case 3:
		a.C = api.Cong{M: 1 << m.Intn(4) * []uint64{1, 3}[m.Intn(2)], R: uint64(lo) & (1<<62 - 1)}
	}
	a.Bot = m.Intn(100) == 0
	return a
}

func (m *maker) env(p api.Prog) api.Env {
	e := api.Env{Dead: m.Intn(40) == 0}
	for range p.Scalars {
		e.Vars = append(e.Vars, m.num())
	}
	for range p.Arrays {
		e.Arrays = append(e.Arrays, m.num())
	}
	return e
}

// holdAll holds Eval at all places against the words, and counts what there was.
func holdAll(t *testing.T, p api.Prog, e api.Env, seen map[string]int) {
	t.Helper()
	form := env.Norm(e)
	for place, n := range p.Nodes {
		if !isNumber2(n) {
			wantCode(t, p, e, place, api.ErrArg)
			continue
		}
		value, sites := words{p, e}.eval(place)
		wantEval(t, p, e, place, value, sites...)
		wantEval(t, p, form, place, value, sites...)
		switch {
		case form.Dead:
			seen["dead"]++
		case value.Bot && len(sites) > 1:
			seen["none, with several sites"]++
		case value.Bot:
			seen["none"]++
		case len(sites) > 1:
			seen["some, with several sites"]++
		case len(sites) == 1:
			seen["some, with a site"]++
		default:
			seen["some"]++
		}
	}
}

func TestByChance(t *testing.T) {
	m, seen := &maker{Rand: rand.New(rand.NewSource(161))}, map[string]int{}
	for range 6000 {
		p := m.program()
		holdAll(t, p, m.env(p), seen)
		if t.Failed() {
			t.Fatalf("that was %v", p.Nodes)
		}
	}
	for _, kind := range []string{"dead", "none, with several sites", "none", "some, with several sites", "some, with a site", "some"} {
		if seen[kind] < 100 {
			t.Errorf("%s: only %d", kind, seen[kind])
		}
	}
}

// P16.1, P16.2: in an Env of one store the answer is the value alone, or none and the site that faults.
func TestOneStore(t *testing.T) {
	m, faults, values := &maker{Rand: rand.New(rand.NewSource(162))}, 0, 0
	for range 4000 {
		p := m.program()
		var e api.Env
		var s api.Store
		for range p.Scalars {
			v := m.Int63n(6) - 1
			if m.Intn(4) == 0 {
				v = numberByChance(m.Rand)
			}
			e.Vars, s.Vars = append(e.Vars, num.Const(v)), append(s.Vars, v)
		}
		for _, a := range p.Arrays {
			v := m.Int63n(6) - 1
			e.Arrays, s.Arrays = append(e.Arrays, num.Const(v)), append(s.Arrays, slices.Repeat([]int64{v}, a.Len))
		}
		for place, n := range p.Nodes {
			if !isNumber2(n) {
				continue
			}
			if v, site, _ := eval.Int(p, s, place); site < 0 {
				wantEval(t, p, e, place, num.Const(v))
				values++
			} else {
				wantEval(t, p, e, place, num.Bot(), site)
				faults++
			}
		}
		if t.Failed() {
			t.Fatalf("that was %v", p.Nodes)
		}
	}
	if faults < 2000 || values < 2000 {
		t.Errorf("only %d faults and %d values", faults, values)
	}
}

func FuzzAll(f *testing.F) {
	f.Add(int64(1), "var x; array a[2]; x := a[x] / (x - 3);", int64(-3), int64(9), uint64(2), uint64(1), false)
	f.Add(int64(2), everyKind, int64(0), int64(2), uint64(1), uint64(0), false)
	f.Add(int64(3), example, int64(-1), int64(1), uint64(0), uint64(1), true)
	f.Fuzz(func(t *testing.T, seed int64, text string, lo, hi int64, c, r uint64, dead bool) {
		m := &maker{Rand: rand.New(rand.NewSource(seed))}
		p, err := check.Text(text)
		if err != nil {
			p = m.program()
		}
		e := m.env(p)
		e.Dead = dead
		if len(e.Vars) > 0 {
			e.Vars[m.Intn(len(e.Vars))] = nu(lo, hi, c, r)
		}
		holdAll(t, p, e, map[string]int{})
		holdSample(t, m, p, e)
	})
}
