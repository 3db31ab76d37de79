package check

import (
	"math"
	"math/rand"
	"reflect"
	"slices"
	"strconv"
	"strings"
	"testing"

	"winnow/api"
	"winnow/parse"
)

// The chapter's words, one node at a time: each question goes through the whole list anew.

func isOneOf[T comparable](x T, list ...T) bool { return slices.Contains(list, x) }

func declares(n api.Node) bool { return isOneOf(n.Kind, api.KVar, api.KArray) }

func mayFault(n api.Node) bool {
	return isOneOf(n.Kind, api.KStore, api.KLoad, api.KAssert) || n.Kind == api.KBinary && isOneOf(n.Op, api.OpDiv, api.OpRem)
}

func condition(n api.Node) bool {
	return n.Kind == api.KBool || isOneOf(n.Op, api.OpNot, api.OpAnd, api.OpOr, api.OpLt, api.OpLe, api.OpGt, api.OpGe, api.OpEq, api.OpNe)
}

func holderOf(ns []api.Node, i int) api.Node {
	for j := i - 1; ; j-- {
		if ns[j].Depth < ns[i].Depth {
			return ns[j]
		}
	}
}

func wantsCondition(n api.Node) bool {
	return isOneOf(n.Kind, api.KAssert, api.KIf, api.KWhile) || isOneOf(n.Op, api.OpNot, api.OpAnd, api.OpOr)
}

func count(ns []api.Node, counts func(n api.Node) bool) int {
	return len(slices.DeleteFunc(slices.Clone(ns), func(n api.Node) bool { return !counts(n) }))
}

// faultByTheWords is the fault of the node i, or OK.
func faultByTheWords(ns []api.Node, i int) api.Errno {
	n := ns[i]
	hasName := func(d api.Node) bool { return declares(d) && d.Name == n.Name }
	alike := count(ns[:i+1], func(m api.Node) bool { return m.Kind == n.Kind })
	if declares(n) {
		switch {
		case slices.ContainsFunc(ns[:i], hasName):
			return api.ErrTwice
		case n.Kind == api.KArray && (n.Num < 1 || n.Num > 16):
			return api.ErrLen
		case n.Kind == api.KVar && alike > 8:
			return api.ErrScalars
		case n.Kind == api.KArray && alike > 3:
			return api.ErrArrays
		}
		return api.OK
	}
	if n.Name != "" {
		d := slices.IndexFunc(ns, hasName)
		if d < 0 {
			return api.ErrNone
		}
		if (ns[d].Kind == api.KArray) != isOneOf(n.Kind, api.KStore, api.KLoad) {
			return api.ErrSort
		}
	}
	if isOneOf(n.Kind, api.KNum, api.KBool, api.KRead, api.KLoad, api.KUnary, api.KBinary) && condition(n) != wantsCondition(holderOf(ns, i)) {
		return api.ErrSort
	}
	if mayFault(n) && count(ns[:i+1], mayFault) > 12 {
		return api.ErrSites
	}
	return api.OK
}

// progByTheWords is the program of nodes without a fault.
func progByTheWords(ns []api.Node) api.Prog {
	p := api.Prog{Nodes: ns}
	for i, n := range ns {
		symbol, site := -1, -1
		if n.Name != "" {
			d := slices.IndexFunc(ns, func(d api.Node) bool { return declares(d) && d.Name == n.Name })
			symbol = count(ns[:d], func(m api.Node) bool { return m.Kind == ns[d].Kind })
		}
		switch n.Kind {
		case api.KVar:
			p.Scalars = append(p.Scalars, n.Name)
		case api.KArray:
			p.Arrays = append(p.Arrays, api.Array{Name: n.Name, Len: int(n.Num)})
		}
		if mayFault(n) {
			site = len(p.Sites)
			p.Sites = append(p.Sites, i)
		}
		p.Symbols = append(p.Symbols, symbol)
		p.SiteOf = append(p.SiteOf, site)
	}
	return p
}

// heldByTheWords holds Program against the words, and tells the fault.
func heldByTheWords(t *testing.T, ns []api.Node) api.Errno {
	t.Helper()
	p, err := Program(ns)
	if code, at := parse.Shape(ns); code != api.OK {
		wantFault(t, "P4.1: no tree", p, err, code, at)
		return code
	}
	for i := range ns {
		if code := faultByTheWords(ns, i); code != api.OK {
			wantFault(t, "P4.1: "+textOf(ns), p, err, code, i)
			return code
		}
	}
	if want := progByTheWords(ns); err != nil || !reflect.DeepEqual(emptied(p), emptied(want)) {
		t.Fatalf("P4.1: Program of %s = %v, %v, want %v", textOf(ns), p, err, want)
	}
	if !Good(p) || !Same(p, p) {
		t.Fatalf("P4.3: Program of %s isn't Good", textOf(ns))
	}
	return api.OK
}

// emptied has nil for each empty list.
func emptied(p api.Prog) api.Prog {
	return api.Prog{
		Nodes: append([]api.Node(nil), p.Nodes...), Scalars: append([]string(nil), p.Scalars...), Arrays: append([]api.Array(nil), p.Arrays...),
		Symbols: append([]int(nil), p.Symbols...), Sites: append([]int(nil), p.Sites...), SiteOf: append([]int(nil), p.SiteOf...),
	}
}

// maker makes trees by chance; once in a while one of its choices is wrong.
type maker struct {
	*rand.Rand
	ns      []api.Node
	scalars []string
	arrays  []string
	wrong   int // one choice in so many
}

func (m *maker) slips() bool { return m.Intn(m.wrong) == 0 }

func (m *maker) put(n api.Node) {
	n.At = m.Int() - m.Int()
	m.ns = append(m.ns, n)
}

func (m *maker) name(array bool) string {
	if array != m.slips() && len(m.arrays) > 0 {
		return m.arrays[m.Intn(len(m.arrays))]
	}
	if len(m.scalars) > 0 && !m.slips() {
		return m.scalars[m.Intn(len(m.scalars))]
	}
	return "n" + strconv.Itoa(m.Intn(14))
}

func (m *maker) declarations() {
	for range m.Intn(14) {
		name := "n" + strconv.Itoa(len(m.ns))
		if m.slips() {
			name = m.name(false)
		}
		array := m.Intn(3) == 0
		if m.Intn(9) > 0 && (array && len(m.arrays) == 3 || !array && len(m.scalars) == 8) {
			continue
		}
		if !array {
			m.put(api.Node{Depth: 1, Kind: api.KVar, Name: name})
			m.scalars = append(m.scalars, name)
			continue
		}
		length := 1 + m.Int63n(16)
		if m.slips() {
			length = []int64{0, 17, math.MaxInt64}[m.Intn(3)]
		}
		m.put(api.Node{Depth: 1, Kind: api.KArray, Name: name, Num: length})
		m.arrays = append(m.arrays, name)
	}
}

func (m *maker) expression(depth, left int, number bool) {
	if number == m.slips() {
		m.condition(depth, left)
	} else {
		m.number(depth, left)
	}
}

func (m *maker) number(depth, left int) {
	choice := m.Intn(6)
	switch {
	case left == 0 || choice == 0:
		m.put(api.Node{Depth: depth, Kind: api.KNum, Num: m.Int63() >> m.Intn(63)})
	case choice == 1:
		m.put(api.Node{Depth: depth, Kind: api.KRead, Name: m.name(false)})
	case choice == 2 && m.Intn(2) == 0:
		m.put(api.Node{Depth: depth, Kind: api.KLoad, Name: m.name(true)})
		m.expression(depth+1, left-1, true)
	case choice == 3:
		m.put(api.Node{Depth: depth, Kind: api.KUnary, Op: api.OpNeg})
		m.expression(depth+1, left-1, true)
	default:
		op := api.OpAdd + api.Op(m.Intn(3))
		if m.Intn(6) == 0 {
			op = api.OpDiv + api.Op(m.Intn(2))
		}
		m.put(api.Node{Depth: depth, Kind: api.KBinary, Op: op})
		m.expression(depth+1, left-1, true)
		m.expression(depth+1, left-1, true)
	}
}

func (m *maker) condition(depth, left int) {
	choice := m.Intn(5)
	switch {
	case left == 0 || choice == 0:
		m.put(api.Node{Depth: depth, Kind: api.KBool, Num: m.Int63n(2)})
	case choice == 1:
		m.put(api.Node{Depth: depth, Kind: api.KUnary, Op: api.OpNot})
		m.expression(depth+1, left-1, false)
	case choice == 2:
		m.put(api.Node{Depth: depth, Kind: api.KBinary, Op: api.OpAnd + api.Op(m.Intn(2))})
		m.expression(depth+1, left-1, false)
		m.expression(depth+1, left-1, false)
	default:
		m.put(api.Node{Depth: depth, Kind: api.KBinary, Op: api.OpLt + api.Op(m.Intn(6))})
		m.expression(depth+1, left-1, true)
		m.expression(depth+1, left-1, true)
	}
}

func (m *maker) block(depth, left int) {
	m.put(api.Node{Depth: depth, Kind: api.KBlock})
	for range m.Intn(3) {
		m.statement(depth+1, left-1)
	}
}

func (m *maker) statement(depth, left int) {
	switch m.Intn(7 + min(left, 2)) {
	case 0, 1:
		m.put(api.Node{Depth: depth, Kind: api.KAssign, Name: m.name(false)})
		m.expression(depth+1, m.Intn(4), true)
	case 2:
		m.put(api.Node{Depth: depth, Kind: api.KStore, Name: m.name(true)})
		m.expression(depth+1, m.Intn(3), true)
		m.expression(depth+1, m.Intn(3), true)
	case 3, 4:
		m.put(api.Node{Depth: depth, Kind: api.KInput, Name: m.name(false)})
	case 5:
		m.put(api.Node{Depth: depth, Kind: api.KAssert})
		m.expression(depth+1, m.Intn(4), false)
	case 6:
		m.put(api.Node{Depth: depth, Kind: api.KSkip})
	case 7:
		m.put(api.Node{Depth: depth, Kind: api.KIf})
		m.expression(depth+1, m.Intn(4), false)
		m.block(depth+1, left-1)
		if m.Intn(2) == 0 {
			m.block(depth+1, left-1)
		}
	case 8:
		m.put(api.Node{Depth: depth, Kind: api.KWhile})
		m.expression(depth+1, m.Intn(4), false)
		m.block(depth+1, left-1)
	}
}

func (m *maker) program() []api.Node {
	m.ns, m.scalars, m.arrays = nil, nil, nil
	m.declarations()
	for range m.Intn(20) {
		m.statement(1, m.Intn(4))
	}
	return m.ns
}

// textOf writes a tree as a text, with brackets around all expressions.
func textOf(ns []api.Node) string {
	var w strings.Builder
	i := 0
	signs := []string{"", "-", "!", "+", "-", "*", "/", "%", "<", "<=", ">", ">=", "==", "!=", "&&", "||"}
	var expr func()
	expr = func() {
		n := ns[i]
		i++
		w.WriteString("(")
		switch n.Kind {
		case api.KNum:
			w.WriteString(strconv.FormatInt(n.Num, 10))
		case api.KBool:
			w.WriteString([]string{"false", "true"}[n.Num])
		case api.KRead:
			w.WriteString(n.Name)
		case api.KLoad:
			w.WriteString(n.Name + "[")
			expr()
			w.WriteString("]")
		case api.KUnary:
			w.WriteString(signs[n.Op])
			expr()
		case api.KBinary:
			expr()
			w.WriteString(signs[n.Op])
			expr()
		}
		w.WriteString(")")
	}
	var rows func(depth int)
	block := func() {
		i++
		w.WriteString("{")
		rows(ns[i-1].Depth + 1)
		w.WriteString("}")
	}
	rows = func(depth int) {
		for i < len(ns) && ns[i].Depth == depth {
			n := ns[i]
			i++
			switch n.Kind {
			case api.KVar:
				w.WriteString("var " + n.Name)
			case api.KArray:
				w.WriteString("array " + n.Name + "[" + strconv.FormatInt(n.Num, 10) + "]")
			case api.KAssign:
				w.WriteString(n.Name + ":=")
				expr()
			case api.KStore:
				w.WriteString(n.Name + "[")
				expr()
				w.WriteString("]:=")
				expr()
			case api.KInput:
				w.WriteString("input " + n.Name)
			case api.KAssert:
				w.WriteString("assert ")
				expr()
			case api.KSkip:
				w.WriteString("skip")
			case api.KIf, api.KWhile:
				w.WriteString(map[api.NodeKind]string{api.KIf: "if ", api.KWhile: "while "}[n.Kind])
				expr()
				block()
				if i < len(ns) && ns[i].Kind == api.KBlock && ns[i].Depth == depth+1 {
					w.WriteString("else ")
					block()
				}
				continue
			}
			w.WriteString(";")
		}
	}
	rows(1)
	return w.String()
}

// heldByText holds Text of a tree's text against Program of the tree.
func heldByText(t *testing.T, ns []api.Node) {
	t.Helper()
	text := textOf(ns)
	nodes, err := parse.Parse(text)
	p, refused := Text(text)
	if err != nil {
		if !reflect.DeepEqual(err, refused) {
			t.Fatalf("P4.2: Text(%q): %v, Parse: %v", text, refused, err)
		}
		return
	}
	q, err := Program(nodes)
	if err == nil {
		if refused != nil || !reflect.DeepEqual(p, q) {
			t.Fatalf("P4.2: Text(%q) = %v, %v, Program: %v", text, p, refused, q)
		}
		return
	}
	fault := err.(*api.Fault)
	wantFault(t, "P4.2: Text("+strconv.Quote(text)+")", p, refused, fault.Code, nodes[fault.At].At)
}

// P4.1, P4.2: trees by chance, with no fault, with some and with many.
func TestTreesByChance(t *testing.T) {
	seen := map[api.Errno]int{}
	m := &maker{Rand: rand.New(rand.NewSource(4))}
	for round := range 10000 {
		m.wrong = []int{10000, 200, 60, 20}[round%4]
		ns := m.program()
		seen[heldByTheWords(t, ns)]++
		if len(ns) <= api.MaxNodes {
			heldByText(t, ns)
		}
	}
	for _, code := range []api.Errno{api.OK, api.ErrTwice, api.ErrNone, api.ErrSort, api.ErrLen, api.ErrScalars, api.ErrArrays, api.ErrSites} {
		if seen[code] < 50 {
			t.Errorf("too few trees of %v: %v", code, seen)
		}
	}
}

// P4.1, P4.4: lists of anything are refused or taken, and nothing panics.
func TestListsOfAnything(t *testing.T) {
	r := rand.New(rand.NewSource(5))
	m := &maker{Rand: r, wrong: 10000}
	odd := func() int64 {
		return []int64{math.MinInt64, -1, 0, 1, 2, 3, 5, 16, 17, 25, math.MaxInt64}[r.Intn(11)]
	}
	for range 6000 {
		ns := m.program()
		for range 1 + r.Intn(2) {
			if len(ns) == 0 {
				break
			}
			n := &ns[r.Intn(len(ns))]
			switch r.Intn(7) {
			case 0:
				n.Depth = int(odd())
			case 1:
				n.Kind = api.NodeKind(odd())
			case 2:
				n.Name = []string{"", "if", "n0", "n1", "9", "\xff"}[r.Intn(6)]
			case 3:
				n.Num = odd()
			case 4:
				n.Op = api.Op(odd())
			case 5:
				n.Op = api.Op(r.Intn(16))
			case 6:
				n.Kind = api.NodeKind(r.Intn(16))
			}
		}
		heldByTheWords(t, ns)
	}
}

func FuzzText(f *testing.F) {
	for _, text := range []string{"", example, everyKind, "var x; var x;", "assert 1;", "array a[17];", "x := 1"} {
		f.Add(text)
	}
	f.Fuzz(func(t *testing.T, text string) {
		p, err := Text(text)
		if nodes, refused := parse.Parse(text); refused == nil {
			heldByTheWords(t, nodes)
			heldByText(t, nodes)
			return
		}
		if err == nil || !reflect.DeepEqual(p, api.Prog{}) {
			t.Fatalf("P4.2: Text(%q) = %v, but there is no tree", text, p)
		}
	})
}
