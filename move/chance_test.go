package move

import (
	"math/rand"
	"slices"
	"testing"

	"winnow/aeval"
	"winnow/api"
	"winnow/check"
	"winnow/env"
	"winnow/eval"
	"winnow/guard"
	"winnow/num"
)

// words says the chapter a second time, to the letter: what a node holds is cut out of the tree first, variables and sites are found by their names and nodes, and each case that leaves nothing is asked for.
type words struct {
	p    api.Prog
	edge api.Edge
}

// held is where what a node holds stands.
func (w words) held(place int) []int {
	var places []int
	for i := place + 1; i < len(w.p.Nodes) && w.p.Nodes[i].Depth > w.p.Nodes[place].Depth; i++ {
		if w.p.Nodes[i].Depth == w.p.Nodes[place].Depth+1 {
			places = append(places, i)
		}
	}
	return places
}

// stands tells whether a site's node is the one at a place, or stands in what that holds: it is gone up from it.
func (w words) stands(place, site int) bool {
	node := w.p.Sites[site]
	for node > place && w.p.Nodes[node].Depth > w.p.Nodes[place].Depth {
		depth := w.p.Nodes[node].Depth
		for w.p.Nodes[node].Depth >= depth {
			node--
		}
	}
	return node == place
}

func (w words) must(code api.Errno) {
	if code != api.OK {
		panic(code)
	}
}

func (w words) eval(e api.Env, place int) (api.Num, []int) {
	value, sites, code := aeval.Eval(w.p, e, place)
	w.must(code)
	return value, sites
}

func (w words) back(e api.Env, place int, c api.Num) api.Env {
	left, code := guard.Back(w.p, e, place, c)
	w.must(code)
	return left
}

func (w words) filter(e api.Env, place int, sense bool) (api.Env, []int) {
	left, sites, code := guard.Filter(w.p, e, place, sense)
	w.must(code)
	return left, sites
}

func (w words) only(e api.Env, _ []int) api.Env { return e }

func (w words) scalar(place int) int { return slices.Index(w.p.Scalars, w.p.Nodes[place].Name) }

func (w words) array(place int) int {
	return slices.IndexFunc(w.p.Arrays, func(a api.Array) bool { return a.Name == w.p.Nodes[place].Name })
}

func (w words) length(place int) int64 { return int64(w.p.Arrays[w.array(place)].Len) }

func (w words) site(place int) int { return slices.Index(w.p.Sites, place) }

// post is what Post has to answer.
func (w words) post(e api.Env) (api.Env, []int) {
	e = env.Norm(e)
	if e.Dead {
		return lost(), nil
	}
	after, told := w.forwards(e)
	slices.Sort(told)
	return after, slices.Compact(told)
}

func (w words) forwards(e api.Env) (api.Env, []int) {
	place := w.edge.Place
	held := w.held(place)
	switch w.edge.Op {
	case api.EAssign:
		v, s := w.eval(e, held[0])
		if v.Bot {
			return lost(), s
		}
		return env.SetVar(e, w.scalar(place), v), s
	case api.EStore:
		return w.store(e, place, held[0], held[1])
	case api.EInput:
		return env.SetVar(e, w.scalar(place), num.Top()), nil
	case api.ESkip:
		return e, nil
	case api.EAssert:
		f, s := w.filter(e, held[0], true)
		if g, _ := w.filter(e, held[0], false); !g.Dead {
			s = append(s, w.site(place))
		}
		return f, s
	}
	return w.filter(e, place, w.edge.Sense)
}

func (w words) store(e api.Env, place, index, value int) (api.Env, []int) {
	inside, array := num.Range(0, w.length(place)-1), w.array(place)
	i, s := w.eval(e, index)
	if !i.Bot && !num.Leq(i, inside) {
		s = append(s, w.site(place))
	}
	f := w.back(e, index, inside)
	if f.Dead {
		return lost(), s
	}
	v, t := w.eval(f, value)
	s = append(s, t...)
	if v.Bot {
		return lost(), s
	}
	if w.length(place) != 1 {
		v = num.Join(f.Arrays[array], v)
	}
	return env.SetArray(f, array, v), s
}

// pre is what Pre has to answer.
func (w words) pre(before, after api.Env) api.Env {
	before, after = env.Norm(before), env.Norm(after)
	if before.Dead || after.Dead {
		return lost()
	}
	place := w.edge.Place
	held := w.held(place)
	switch w.edge.Op {
	case api.EAssign:
		m := env.Meet(before, env.SetVar(after, w.scalar(place), num.Top()))
		return w.back(m, held[0], after.Vars[w.scalar(place)])
	case api.EStore:
		m := env.Meet(before, env.SetArray(after, w.array(place), num.Top()))
		f := w.back(m, held[0], num.Range(0, w.length(place)-1))
		return w.back(f, held[1], after.Arrays[w.array(place)])
	case api.EInput:
		return env.Meet(before, env.SetVar(after, w.scalar(place), num.Top()))
	case api.ESkip:
		return env.Meet(before, after)
	case api.EAssert:
		return w.only(w.filter(env.Meet(before, after), held[0], true))
	}
	return w.only(w.filter(env.Meet(before, after), place, w.edge.Sense))
}

// holds is what Holds has to answer.
func (w words) holds() []int {
	var out []int
	for site := range w.p.Sites {
		if w.stands(w.edge.Place, site) {
			out = append(out, site)
		}
	}
	return out
}

// seed is what Seed has to answer of a site that the edge holds.
func (w words) seed(before api.Env, site int) api.Env {
	before = env.Norm(before)
	if before.Dead {
		return lost()
	}
	place := w.edge.Place
	held := w.held(place)
	own := w.p.Sites[site] == place
	switch {
	case w.edge.Op == api.EAssume:
		return w.reach(before, place, site)
	case w.edge.Op == api.EStore && own:
		return w.outside(before, place, held[0])
	case w.edge.Op == api.EStore && w.stands(held[1], site):
		return w.reach(w.back(before, held[0], num.Range(0, w.length(place)-1)), held[1], site)
	case w.edge.Op == api.EAssert && own:
		return w.only(w.filter(before, held[0], false))
	}
	return w.reach(before, held[0], site)
}

func (w words) outside(e api.Env, place, index int) api.Env {
	return env.Join(w.back(e, index, num.Range(minInt, -1)), w.back(e, index, num.Range(w.length(place), maxInt)))
}

// reach is the chapter's F.
func (w words) reach(e api.Env, x, site int) api.Env {
	n, held := w.p.Nodes[x], w.held(x)
	switch {
	case w.p.Sites[site] == x && n.Kind == api.KLoad:
		return w.outside(e, x, held[0])
	case w.p.Sites[site] == x:
		return w.back(e, held[1], num.Const(0))
	case w.stands(held[0], site):
		return w.reach(e, held[0], site)
	case n.Op == api.OpAnd:
		return w.reach(w.only(w.filter(e, held[0], true)), held[1], site)
	case n.Op == api.OpOr:
		return w.reach(w.only(w.filter(e, held[0], false)), held[1], site)
	}
	return w.reach(e, held[1], site)
}

// maker makes programs and Envs by chance.
type maker struct {
	*rand.Rand
	ns      []api.Node
	scalars []string
	arrays  []string
}

func newMaker(seed int64) *maker { return &maker{Rand: rand.New(rand.NewSource(seed))} }

func (m *maker) put(depth int, kind api.NodeKind, n api.Node) {
	n.Depth, n.Kind, n.At = depth, kind, m.Intn(99)
	m.ns = append(m.ns, n)
}

func (m *maker) named(names []string) api.Node { return api.Node{Name: names[m.Intn(len(names))]} }

func (m *maker) declarations() {
	for range 1 + m.Intn(5) {
		name := string(rune('a' + len(m.ns)))
		if len(m.arrays) < 3 && m.Intn(2) == 0 {
			// Arrays of one element are often, as they alone are written over wholly.
			m.put(1, api.KArray, api.Node{Name: name, Num: 1 + m.Int63n(2)*m.Int63n(8)})
			m.arrays = append(m.arrays, name)
		} else {
			m.put(1, api.KVar, api.Node{Name: name})
			m.scalars = append(m.scalars, name)
		}
	}
}

func (m *maker) number(depth, left int) {
	choice := m.Intn(9)
	switch {
	case left > 0 && choice < 2 && len(m.arrays) > 0:
		m.put(depth, api.KLoad, m.named(m.arrays))
		m.number(depth+1, left-1-m.Intn(left))
	case left > 0 && choice == 2:
		m.put(depth, api.KUnary, api.Node{Op: api.OpNeg})
		m.number(depth+1, left-1)
	case left > 0 && choice < 6:
		m.put(depth, api.KBinary, api.Node{Op: api.OpAdd + api.Op(m.Intn(5))})
		m.number(depth+1, left-1)
		m.number(depth+1, left-1)
	case m.Intn(3) > 0 && len(m.scalars) > 0:
		m.put(depth, api.KRead, m.named(m.scalars))
	case m.Intn(6) == 0:
		m.put(depth, api.KNum, api.Node{Num: numberByChance(m.Rand) & maxInt})
	default:
		m.put(depth, api.KNum, api.Node{Num: m.Int63n(5)})
	}
}

func (m *maker) condition(depth, left int) {
	switch choice := m.Intn(10); {
	case left > 0 && choice < 5:
		m.put(depth, api.KBinary, api.Node{Op: api.OpAnd + api.Op(m.Intn(2))})
		m.condition(depth+1, left-1)
		m.condition(depth+1, left-1)
	case left > 0 && choice == 5:
		m.put(depth, api.KUnary, api.Node{Op: api.OpNot})
		m.condition(depth+1, left-1)
	case choice == 6:
		m.put(depth, api.KBool, api.Node{Num: m.Int63n(2)})
	default:
		m.put(depth, api.KBinary, api.Node{Op: api.OpLt + api.Op(m.Intn(6))})
		m.number(depth+1, m.Intn(3))
		m.number(depth+1, m.Intn(3))
	}
}

func (m *maker) block(depth, left int) {
	m.put(depth, api.KBlock, api.Node{})
	for range m.Intn(3) {
		m.statement(depth+1, left)
	}
}

func (m *maker) statement(depth, left int) {
	switch choice := m.Intn(10); {
	case choice < 2 && len(m.scalars) > 0:
		m.put(depth, api.KAssign, m.named(m.scalars))
		m.number(depth+1, 1+m.Intn(3))
	case choice < 5 && len(m.arrays) > 0:
		m.put(depth, api.KStore, m.named(m.arrays))
		m.number(depth+1, m.Intn(3))
		m.number(depth+1, m.Intn(3))
	case choice == 5 && len(m.scalars) > 0:
		m.put(depth, api.KInput, m.named(m.scalars))
	case choice < 7:
		m.put(depth, api.KSkip, api.Node{})
	case choice < 8 && left > 0:
		kind := []api.NodeKind{api.KIf, api.KWhile}[m.Intn(2)]
		m.put(depth, kind, api.Node{})
		m.condition(depth+1, m.Intn(4))
		m.block(depth+1, left-1)
		if kind == api.KIf && m.Intn(2) == 0 {
			m.block(depth+1, left-1)
		}
	default:
		m.put(depth, api.KAssert, api.Node{})
		m.condition(depth+1, m.Intn(4))
	}
}

// program makes trees until check takes one: many have too many sites.
func (m *maker) program() api.Prog {
	for {
		m.ns, m.scalars, m.arrays = nil, nil, nil
		m.declarations()
		for range 1 + m.Intn(3) {
			m.statement(1, 2)
		}
		if p, err := check.Program(m.ns); err == nil {
			return p
		}
	}
}

// numberByChance is small, near a power of two, or of any size.
func numberByChance(m *rand.Rand) int64 {
	switch m.Intn(3) {
	case 0:
		return int64(m.Intn(41) - 20)
	case 1:
		return 1<<m.Intn(64) + int64(m.Intn(7)-3)
	}
	return int64(m.Uint64()) >> m.Intn(64)
}

// num is a Num as it may be handed in; many are small, so that they are indices and divisors now and then.
func (m *maker) num() api.Num {
	lo, hi := m.Int63n(8)-2, m.Int63n(8)-2
	if m.Intn(3) == 0 {
		lo, hi = numberByChance(m.Rand), numberByChance(m.Rand)
	}
	if lo > hi && m.Intn(40) > 0 {
		lo, hi = hi, lo
	}
	a := in(lo, hi)
	switch m.Intn(8) {
	case 0:
		a.C = api.Cong{R: uint64(lo)}
	case 1, 2:
		a.C = api.Cong{M: 1 << m.Intn(4) * []uint64{1, 3}[m.Intn(2)], R: uint64(lo) & (1<<62 - 1)}
	}
	a.Bot = m.Intn(100) == 0
	return a
}

func (m *maker) env(p api.Prog) api.Env {
	e := api.Env{Dead: m.Intn(40) == 0}
	for range p.Scalars {
		e.Vars = append(e.Vars, m.num())
	}
	for range p.Arrays {
		e.Arrays = append(e.Arrays, m.num())
	}
	return e
}

// behind is an Env that a step may lead into: what it makes of e, or that with some of its Nums others, or any.
func (m *maker) behind(p api.Prog, edge int, e api.Env) api.Env {
	after, _, _ := Post(p, edge, e)
	if after.Dead || m.Intn(4) == 0 {
		return m.env(p)
	}
	if len(after.Vars) > 0 && m.Intn(2) == 0 {
		after.Vars[m.Intn(len(after.Vars))] = m.num()
	}
	if len(after.Arrays) > 0 && m.Intn(2) == 0 {
		after.Arrays[m.Intn(len(after.Arrays))] = m.num()
	}
	return after
}

// kindOf is what became of an Env, for counting.
func kindOf(form, left api.Env) string {
	switch {
	case form.Dead:
		return "dead before"
	case left.Dead:
		return "nothing is left"
	case alike(form, left):
		return "all is left"
	}
	return "some is left"
}

// holdAll holds all calls at all edges against the words, and counts what there was.
func holdAll(t *testing.T, m *maker, p api.Prog, e api.Env, seen map[string]int) {
	t.Helper()
	form := env.Norm(e)
	for edge, what := range edgesOf(t, p) {
		w := words{p, what}
		after, told := w.post(e)
		wantPost(t, p, edge, e, after, told...)
		wantPost(t, p, edge, form, after, told...)
		seen["Post: "+kindOf(form, after)]++
		f := m.behind(p, edge, e)
		left := w.pre(e, f)
		wantPre(t, p, edge, e, f, left)
		wantPre(t, p, edge, form, env.Norm(f), left)
		below(t, p, form, left)
		seen["Pre: "+kindOf(form, left)]++
		wantHolds(t, p, edge, w.holds()...)
		for site := -1; site <= len(p.Sites); site++ {
			if !slices.Contains(w.holds(), site) {
				refuseSeed(t, p, edge, e, site, api.ErrArg)
				continue
			}
			left := w.seed(e, site)
			wantSeed(t, p, edge, e, site, left)
			wantSeed(t, p, edge, form, site, left)
			below(t, p, form, left)
			seen["Seed: "+kindOf(form, left)]++
		}
	}
}

// below wants what is left of an Env to be below it, and in its normal form.
func below(t *testing.T, p api.Prog, e, left api.Env) {
	t.Helper()
	if !alike(left, env.Norm(left)) || !env.Leq(left, e) {
		t.Errorf("P18.5: of %v %v is left, which isn't below it or isn't normal; that was %v", e, left, p.Nodes)
	}
}

func TestByChance(t *testing.T) {
	m, seen := newMaker(181), map[string]int{}
	for range 4000 {
		p := m.program()
		holdAll(t, m, p, m.env(p), seen)
		if t.Failed() {
			t.Fatalf("that was %v", p.Nodes)
		}
	}
	for _, call := range []string{"Post: ", "Pre: ", "Seed: "} {
		for _, kind := range []string{"dead before", "nothing is left", "all is left", "some is left"} {
			if seen[call+kind] < 50 {
				t.Errorf("%s%s: only %d", call, kind, seen[call+kind])
			}
		}
	}
}

// did is what a step makes of a store: another one and -1, or the site that faults; of EAssume the same store, if the condition has the Sense, which gone tells.
func did(p api.Prog, what api.Edge, s api.Store, input int64) (after api.Store, gone bool, site int) {
	if what.Op == api.EAssume {
		holds, site, _ := eval.Bool(p, s, what.Place)
		return s, site < 0 && holds == what.Sense, site
	}
	after, site, _ = eval.Do(p, s, what.Place, input)
	return after, site < 0, site
}

// P18.1, P18.5: in an Env of one store the site that faults is told alone; where it faults nothing is left, and Seed leaves all; else what the step makes of it is in Post's, and Pre leaves all.
func TestOneStore(t *testing.T) {
	m, faults, steps := newMaker(182), 0, 0
	for range 4000 {
		p := m.program()
		e, s := m.single(p)
		for edge, what := range edgesOf(t, p) {
			after, gone, site := did(p, what, s, numberByChance(m.Rand))
			switch {
			case site >= 0:
				wantPost(t, p, edge, e, lost(), site)
				wantSeed(t, p, edge, e, site, e)
				faults++
			case !gone:
				wantPost(t, p, edge, e, lost())
				wantPre(t, p, edge, e, e, lost())
			default:
				holdOneStep(t, p, edge, e, after)
				steps++
			}
		}
		if t.Failed() {
			t.Fatalf("that was %v", p.Nodes)
		}
	}
	if faults < 1000 || steps < 2000 {
		t.Errorf("only %d faults and %d steps", faults, steps)
	}
}

// holdOneStep holds an edge along which the one store of e becomes another one.
func holdOneStep(t *testing.T, p api.Prog, edge int, e api.Env, after api.Store) {
	t.Helper()
	got, told, code := Post(p, edge, e)
	if !env.Has(got, after) || len(told) > 0 || code != api.OK {
		t.Errorf("P18.5: Post along %d of %v = %v, %v, %v, the store is %v", edge, e, got, told, code, after)
	}
	wantPre(t, p, edge, e, got, e)
	top, _ := env.Top(p)
	wantPre(t, p, edge, e, top, e)
	var small api.Env
	for _, v := range after.Vars {
		small.Vars = append(small.Vars, one(v))
	}
	for _, l := range after.Arrays {
		small.Arrays = append(small.Arrays, num.Range(slices.Min(l), slices.Max(l)))
	}
	wantPre(t, p, edge, e, small, e)
}

// single is a store, and the Env of it alone.
func (m *maker) single(p api.Prog) (api.Env, api.Store) {
	var e api.Env
	var s api.Store
	some := func() int64 {
		if m.Intn(4) == 0 {
			return numberByChance(m.Rand)
		}
		return m.Int63n(6) - 1
	}
	for range p.Scalars {
		v := some()
		e.Vars, s.Vars = append(e.Vars, num.Const(v)), append(s.Vars, v)
	}
	for _, a := range p.Arrays {
		v := some()
		e.Arrays, s.Arrays = append(e.Arrays, num.Const(v)), append(s.Arrays, slices.Repeat([]int64{v}, a.Len))
	}
	return e, s
}

func FuzzAll(f *testing.F) {
	f.Add(int64(1), "var x; array a[1]; a[x] := 6 / x; assert a[x] / (x - 3) < x && !(x == 2 || a[0] > 4);", int64(-3), int64(9), uint64(2), uint64(1), false)
	f.Add(int64(2), everyEdge, int64(0), int64(2), uint64(1), uint64(0), false)
	f.Add(int64(3), example, int64(-1), int64(1), uint64(0), uint64(1), true)
	f.Fuzz(func(t *testing.T, seed int64, text string, lo, hi int64, c, r uint64, dead bool) {
		m := newMaker(seed)
		p, err := check.Text(text)
		if err != nil || len(p.Nodes) > 60 {
			p = m.program()
		}
		e := m.env(p)
		e.Dead = dead
		if len(e.Vars) > 0 {
			e.Vars[m.Intn(len(e.Vars))] = nu(lo, hi, c, r)
		}
		holdAll(t, m, p, e, map[string]int{})
		holdSample(t, m, p, e)
	})
}
