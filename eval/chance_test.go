package eval

import (
	"math/big"
	"math/rand"
	"slices"
	"testing"

	"winnow/api"
	"winnow/check"
)

// words plays point 3 of the document a second time: whole numbers of any length, variables by their names, sites counted in the tree, and each fault handed back by hand.
type words struct {
	ns      []api.Node
	scalars map[string]int64
	arrays  map[string][]int64
}

func wordsOf(p api.Prog, s api.Store) words {
	w := words{ns: p.Nodes, scalars: map[string]int64{}, arrays: map[string][]int64{}}
	for _, n := range p.Nodes {
		switch n.Kind {
		case api.KVar:
			w.scalars[n.Name] = s.Vars[len(w.scalars)]
		case api.KArray:
			w.arrays[n.Name] = slices.Clone(s.Arrays[len(w.arrays)])
		}
	}
	return w
}

// store is what the variables hold, in the order of declarations.
func (w words) store() api.Store {
	var s api.Store
	for _, n := range w.ns {
		switch n.Kind {
		case api.KVar:
			s.Vars = append(s.Vars, w.scalars[n.Name])
		case api.KArray:
			s.Arrays = append(s.Arrays, w.arrays[n.Name])
		}
	}
	return s
}

// siteAt counts the sites ahead of a place.
func (w words) siteAt(place int) int {
	sites := 0
	for _, n := range w.ns[:place] {
		if slices.Contains([]api.NodeKind{api.KStore, api.KLoad, api.KAssert}, n.Kind) || n.Op == api.OpDiv || n.Op == api.OpRem {
			sites++
		}
	}
	return sites
}

// held is where what a node holds stands.
func (w words) held(place int) []int {
	var places []int
	for i := place + 1; i < len(w.ns) && w.ns[i].Depth > w.ns[place].Depth; i++ {
		if w.ns[i].Depth == w.ns[place].Depth+1 {
			places = append(places, i)
		}
	}
	return places
}

func (w words) number(place int) (int64, int) {
	n, held := w.ns[place], w.held(place)
	switch n.Kind {
	case api.KNum:
		return n.Num, -1
	case api.KRead:
		return w.scalars[n.Name], -1
	case api.KLoad:
		index, site := w.index(place, held[0])
		if site >= 0 {
			return 0, site
		}
		return w.arrays[n.Name][index], -1
	}
	var operands []*big.Int
	for _, h := range held {
		v, site := w.number(h)
		if site >= 0 {
			return 0, site
		}
		operands = append(operands, big.NewInt(v))
	}
	if n.Op == api.OpNeg {
		return wrapped(new(big.Int).Neg(operands[0])), -1
	}
	exact := exactly(n.Op, operands[0], operands[1])
	if exact == nil {
		return 0, w.siteAt(place)
	}
	return wrapped(exact), -1
}

// index is the number at a place, if it is one of the array's that the node of the site names.
func (w words) index(site, place int) (int64, int) {
	index, fault := w.number(place)
	if fault < 0 && (index < 0 || index >= int64(len(w.arrays[w.ns[site].Name]))) {
		return 0, w.siteAt(site)
	}
	return index, fault
}

func (w words) condition(place int) (bool, int) {
	n, held := w.ns[place], w.held(place)
	switch {
	case n.Kind == api.KBool:
		return n.Num != 0, -1
	case n.Op == api.OpNot:
		v, site := w.condition(held[0])
		return !v && site < 0, site
	case n.Op == api.OpAnd:
		if v, site := w.condition(held[0]); site >= 0 || !v {
			return false, site
		}
		return w.condition(held[1])
	case n.Op == api.OpOr:
		if v, site := w.condition(held[0]); site >= 0 || v {
			return v, site
		}
		return w.condition(held[1])
	}
	a, site := w.number(held[0])
	if site >= 0 {
		return false, site
	}
	b, site := w.number(held[1])
	if site >= 0 {
		return false, site
	}
	return holds(n.Op, big.NewInt(a).Cmp(big.NewInt(b))), -1
}

// do changes what the variables hold, or tells the site that faults.
func (w words) do(place int, input int64) int {
	n, held := w.ns[place], w.held(place)
	switch n.Kind {
	case api.KAssign:
		v, site := w.number(held[0])
		w.scalars[n.Name] = v
		return site
	case api.KStore:
		index, site := w.index(place, held[0])
		if site >= 0 {
			return site
		}
		v, site := w.number(held[1])
		w.arrays[n.Name][index] = v
		return site
	case api.KInput:
		w.scalars[n.Name] = input
	case api.KAssert:
		v, site := w.condition(held[0])
		if site < 0 && !v {
			return w.siteAt(place)
		}
		return site
	}
	return -1
}

// maker makes programs by chance.
type maker struct {
	*rand.Rand
	ns      []api.Node
	scalars []string
	arrays  []string
}

func (m *maker) put(depth int, kind api.NodeKind, n api.Node) {
	n.Depth, n.Kind, n.At = depth, kind, m.Intn(99)
	m.ns = append(m.ns, n)
}

func (m *maker) named(names []string) api.Node { return api.Node{Name: names[m.Intn(len(names))]} }

func (m *maker) declarations() {
	for range 1 + m.Intn(6) {
		name := string(rune('a' + len(m.ns)))
		if len(m.arrays) < 3 && m.Intn(2) == 0 {
			m.put(1, api.KArray, api.Node{Name: name, Num: 1 + m.Int63n(4)*m.Int63n(6)})
			m.arrays = append(m.arrays, name)
		} else {
			m.put(1, api.KVar, api.Node{Name: name})
			m.scalars = append(m.scalars, name)
		}
	}
}

func (m *maker) literal() int64 {
	if m.Intn(4) > 0 {
		return m.Int63n(5)
	}
	return edges[m.Intn(len(edges))] & (1<<63 - 1)
}

func (m *maker) number(depth, left int) {
	choice := m.Intn(9)
	switch {
	case left > 0 && choice < 2 && len(m.arrays) > 0:
		m.put(depth, api.KLoad, m.named(m.arrays))
		m.number(depth+1, left-1-m.Intn(left))
	case left > 0 && choice == 2:
		m.put(depth, api.KUnary, api.Node{Op: api.OpNeg})
		m.number(depth+1, left-1)
	case left > 0 && choice < 6:
		m.put(depth, api.KBinary, api.Node{Op: api.OpAdd + api.Op(m.Intn(5))})
		m.number(depth+1, left-1)
		m.number(depth+1, left-1)
	case choice%2 == 0 && len(m.scalars) > 0:
		m.put(depth, api.KRead, m.named(m.scalars))
	default:
		m.put(depth, api.KNum, api.Node{Num: m.literal()})
	}
}

func (m *maker) condition(depth, left int) {
	choice := m.Intn(7)
	switch {
	case left == 0 || choice == 0:
		m.put(depth, api.KBool, api.Node{Num: m.Int63n(2)})
	case choice == 1:
		m.put(depth, api.KUnary, api.Node{Op: api.OpNot})
		m.condition(depth+1, left-1)
	case choice < 4:
		m.put(depth, api.KBinary, api.Node{Op: api.OpAnd + api.Op(m.Intn(2))})
		m.condition(depth+1, left-1)
		m.condition(depth+1, left-1)
	default:
		m.put(depth, api.KBinary, api.Node{Op: api.OpLt + api.Op(m.Intn(6))})
		m.number(depth+1, left-1)
		m.number(depth+1, left-1)
	}
}

func (m *maker) statement(depth, left int) {
	choice := m.Intn(8)
	switch {
	case choice < 2 && len(m.scalars) > 0:
		m.put(depth, api.KAssign, m.named(m.scalars))
		m.number(depth+1, m.Intn(4))
	case choice < 4 && len(m.arrays) > 0:
		m.put(depth, api.KStore, m.named(m.arrays))
		m.number(depth+1, m.Intn(3))
		m.number(depth+1, m.Intn(3))
	case choice == 4 && len(m.scalars) > 0:
		m.put(depth, api.KInput, m.named(m.scalars))
	case choice == 5:
		m.put(depth, api.KAssert, api.Node{})
		m.condition(depth+1, m.Intn(5))
	case choice == 6 && left > 0:
		m.put(depth, api.KIf+api.NodeKind(m.Intn(2)), api.Node{})
		m.condition(depth+1, m.Intn(4))
		m.put(depth+1, api.KBlock, api.Node{})
		for range m.Intn(3) {
			m.statement(depth+2, left-1)
		}
	default:
		m.put(depth, api.KSkip, api.Node{})
	}
}

// program makes trees until check takes one: most have too many sites.
func (m *maker) program() api.Prog {
	for {
		m.ns, m.scalars, m.arrays = nil, nil, nil
		m.declarations()
		for range 1 + m.Intn(5) {
			m.statement(1, 2)
		}
		if p, err := check.Program(m.ns); err == nil {
			return p
		}
	}
}

// store makes a store that fits; most of its numbers are small, so that they are indices now and then.
func (m *maker) store(p api.Prog) api.Store {
	one := func() int64 {
		if m.Intn(3) > 0 {
			return m.Int63n(6) - 1
		}
		return edges[m.Intn(len(edges))]
	}
	s := api.Store{Vars: make([]int64, len(p.Scalars)), Arrays: make([][]int64, len(p.Arrays))}
	for i := range s.Vars {
		s.Vars[i] = one()
	}
	for i, a := range p.Arrays {
		s.Arrays[i] = make([]int64, a.Len)
		for j := range s.Arrays[i] {
			s.Arrays[i][j] = one()
		}
	}
	return s
}

// heldByTheWords holds all calls at all places against the words, and counts how often nothing faulted and how often each kind of site did.
func heldByTheWords(t *testing.T, p api.Prog, s api.Store, input int64, seen map[api.NodeKind]int) {
	t.Helper()
	count := func(site int) {
		if site < 0 {
			seen[-1]++
		} else {
			seen[p.Nodes[p.Sites[site]].Kind]++
		}
	}
	for place, n := range p.Nodes {
		w := wordsOf(p, s)
		switch {
		case n.Kind < api.KAssign || n.Kind > api.KSkip && n.Kind < api.KNum:
			wantNoInt(t, p, s, place, api.ErrArg)
			wantNoBool(t, p, s, place, api.ErrArg)
			wantNoDo(t, p, s, place, api.ErrArg)
		case n.Kind <= api.KSkip:
			site := w.do(place, input)
			count(site)
			if site >= 0 {
				wantFault(t, p, s, place, site)
			} else {
				wantDone(t, p, s, place, input, w.store())
			}
		case n.Kind == api.KBool || n.Op == api.OpNot || n.Op >= api.OpLt:
			value, site := w.condition(place)
			count(site)
			wantBool(t, p, s, place, value, site)
			wantNoInt(t, p, s, place, api.ErrArg)
		default:
			value, site := w.number(place)
			count(site)
			wantInt(t, p, s, place, value, site)
			wantNoBool(t, p, s, place, api.ErrArg)
		}
	}
}

// P6.1 to P6.3: programs and stores by chance, all calls at all places.
func TestProgramsByChance(t *testing.T) {
	m := &maker{Rand: rand.New(rand.NewSource(6))}
	seen := map[api.NodeKind]int{}
	for range 4000 {
		p := m.program()
		heldByTheWords(t, p, mustZero(t, p), 3, seen)
		for range 3 {
			s := m.store(p)
			if !Fits(p, s) {
				t.Fatalf("P6.1: %v doesn't fit", s)
			}
			heldByTheWords(t, p, s, m.Int63()-m.Int63(), seen)
		}
		if t.Failed() {
			t.Fatalf("the nodes are %v", p.Nodes)
		}
	}
	for _, kind := range []api.NodeKind{-1, api.KStore, api.KLoad, api.KAssert, api.KBinary} {
		if seen[kind] < 1000 {
			t.Errorf("too few faults of the kind %d: %v", kind, seen)
		}
	}
}

func FuzzText(f *testing.F) {
	for _, text := range []string{"", example, everyKind, "var x; assert false && (x / 0 == 1);"} {
		f.Add(text, int64(6))
	}
	f.Fuzz(func(t *testing.T, text string, seed int64) {
		p, err := check.Text(text)
		if err != nil {
			return
		}
		m := &maker{Rand: rand.New(rand.NewSource(seed))}
		heldByTheWords(t, p, mustZero(t, p), seed, map[api.NodeKind]int{})
		heldByTheWords(t, p, m.store(p), seed, map[api.NodeKind]int{})
	})
}
