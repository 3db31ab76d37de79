package cfg

import (
	"math/rand"
	"slices"
	"strconv"
	"strings"
	"testing"

	"winnow/api"
	"winnow/check"
	"winnow/eval"
	"winnow/interp"
)

// words say the chapter's words a second time, from a statement outwards to what holds it.
type words struct{ nodes []api.Node }

func (w words) isStep(place int) bool {
	return slices.Contains([]api.NodeKind{api.KAssign, api.KStore, api.KInput, api.KAssert, api.KSkip, api.KIf, api.KWhile}, w.nodes[place].Kind)
}

// node is the number of the stepping node at a place; behind the last place that of the exit.
func (w words) node(place int) int {
	number := 0
	for i := range place {
		if w.isStep(i) {
			number++
		}
	}
	return number
}

// held is where what a node holds stands.
func (w words) held(place int) []int {
	var places []int
	for i := place + 1; i < len(w.nodes) && w.nodes[i].Depth > w.nodes[place].Depth; i++ {
		if w.nodes[i].Depth == w.nodes[place].Depth+1 {
			places = append(places, i)
		}
	}
	return places
}

// holder is the node that holds the one at a place; -1: the program does.
func (w words) holder(place int) int {
	for i := place - 1; i >= 0; i-- {
		if slices.Contains(w.held(i), place) {
			return i
		}
	}
	return -1
}

// follows is what follows a statement.
func (w words) follows(place int) int {
	block := w.holder(place)
	for i := place + 1; i < len(w.nodes); i++ {
		if w.nodes[i].Depth == w.nodes[place].Depth && w.holder(i) == block {
			return w.node(i)
		}
	}
	if block < 0 {
		return w.node(len(w.nodes))
	}
	return w.afterBlock(block)
}

// afterBlock is what the last statement of a block leads to.
func (w words) afterBlock(block int) int {
	of := w.holder(block)
	if w.nodes[of].Kind == api.KIf {
		return w.follows(of)
	}
	return w.node(of)
}

// begins is where a block begins.
func (w words) begins(block int) int {
	if inside := w.held(block); len(inside) > 0 {
		return w.node(inside[0])
	}
	return w.afterBlock(block)
}

// edges are those of the stepping node at a place.
func (w words) edges(place int) []api.Edge {
	from, kind := w.node(place), w.nodes[place].Kind
	if kind != api.KIf && kind != api.KWhile {
		ops := map[api.NodeKind]api.EdgeOp{
			api.KAssign: api.EAssign, api.KStore: api.EStore, api.KInput: api.EInput, api.KAssert: api.EAssert, api.KSkip: api.ESkip,
		}
		return []api.Edge{step(ops[kind], from, w.follows(place), place)}
	}
	held := w.held(place)
	otherwise := w.follows(place)
	if len(held) == 3 {
		otherwise = w.begins(held[2])
	}
	if kind == api.KIf {
		return []api.Edge{yes(from, w.begins(held[1]), held[0]), no(from, otherwise, held[0])}
	}
	return []api.Edge{round(from, w.begins(held[1]), held[0]), out(from, otherwise, held[0])}
}

// heldByTheWords holds a program's graph, and all that At tells, against the words.
func heldByTheWords(t *testing.T, text string, p api.Prog) api.Graph {
	t.Helper()
	w := words{p.Nodes}
	var edges []api.Edge
	for place := range p.Nodes {
		want := -1
		if w.isStep(place) {
			want = w.node(place)
			edges = append(edges, w.edges(place)...)
		}
		if node := At(p, place); node != want {
			t.Errorf("P8.2: %s: At(.., %d) = %d, want %d", text, place, node, want)
		}
	}
	exit := w.node(len(p.Nodes))
	g, code := Lower(p)
	if code != api.OK || g.Exit != exit || g.Nodes != exit+1 || !slices.Equal(g.Edges, edges) {
		t.Errorf("P8.1: %s: Lower = %d nodes, exit %d, %v, %v, want exit %d, %v", text, g.Nodes, g.Exit, g.Edges, code, exit, edges)
	}
	wantProg(t, text, g.Prog, p)
	return g
}

// wantWellFormed holds a graph against P8.3.
func wantWellFormed(t *testing.T, text string, g api.Graph) {
	t.Helper()
	reached := map[int]bool{0: true}
	for open := []int{0}; len(open) > 0; {
		for _, e := range leaving(g, open[0]) {
			if to := g.Edges[e].To; !reached[to] {
				reached[to] = true
				open = append(open, to)
			}
		}
		open = open[1:]
	}
	for node := range g.Nodes {
		list := leaving(g, node)
		if number := len(list); number > 2 || (number == 0) != (node == g.Exit) {
			t.Errorf("P8.3: %s: %d edges out of the node %d", text, number, node)
		}
		for _, e := range list {
			if edge := g.Edges[e]; (edge.Op == api.EAssume) != (len(list) == 2) || edge.To < 0 || edge.To >= g.Nodes {
				t.Errorf("P8.3: %s: the edge %d is %v", text, e, edge)
			}
		}
		if len(list) == 2 && g.Edges[list[0]].Sense == g.Edges[list[1]].Sense {
			t.Errorf("P8.3: %s: the edges out of %d are alike in Sense", text, node)
		}
		if !reached[node] {
			t.Errorf("P8.3: %s: the node %d isn't reached", text, node)
		}
	}
	if !slices.IsSortedFunc(g.Edges, func(d, e api.Edge) int { return d.From - e.From }) {
		t.Errorf("P8.3: %s: the edges are out of order: %v", text, g.Edges)
	}
}

// leaving are the numbers of the edges out of a node.
func leaving(g api.Graph, node int) []int {
	var list []int
	for i, e := range g.Edges {
		if e.From == node {
			list = append(list, i)
		}
	}
	return list
}

// walked is the node that a step leads to, by the edges and by what the condition says; -1: no edge is gone.
func walked(t *testing.T, g api.Graph, from int, s api.Store) int {
	t.Helper()
	to := -1
	for _, i := range leaving(g, from) {
		e := g.Edges[i]
		if e.Op == api.EAssume {
			holds, site, code := eval.Bool(g.Prog, s, e.Place)
			if code != api.OK {
				t.Fatalf("P8.1: the place of %v is no condition: %v", e, code)
			}
			if site >= 0 || holds != e.Sense {
				continue
			}
		}
		if to >= 0 {
			t.Errorf("P8.3: two edges out of %d are gone", from)
		}
		to = e.To
	}
	return to
}

// wantSideBySide holds a walk along the edges against the moments of a run, and tells how many steps there were.
func wantSideBySide(t *testing.T, text string, g api.Graph, tape []int64, fuel int) int {
	t.Helper()
	at, made := 0, 0
	for m := range interp.Moments(g.Prog, tape, fuel) {
		node := g.Exit
		if m.Place >= 0 {
			node = At(g.Prog, m.Place)
		}
		if node != at {
			t.Fatalf("P8.3: %s: the walk is at %d behind %d steps, the run at %d", text, at, m.Steps, node)
		}
		if at = walked(t, g, node, m.Store); node == g.Exit && at != -1 {
			t.Errorf("P8.3: %s: the exit is left", text)
		}
		made = m.Steps
	}
	return made
}

// maker makes texts of programs by chance.
type maker struct{ *rand.Rand }

func (m maker) pick(texts ...string) string { return texts[m.Intn(len(texts))] }

// number is mostly one that is an index or leaves a loop, so that runs go far.
func (m maker) number(left int) string {
	if left > 0 {
		switch m.Intn(5) {
		case 0:
			return m.pick("a", "b") + "[" + m.number(left-1) + "]"
		case 1, 2:
			return "(" + m.number(left-1) + m.pick(" + ", " - ", " * ", " / ", " % ") + m.number(left-1) + ")"
		}
	}
	return m.pick("x", "y", "z", strconv.Itoa(m.Intn(4)), "-1")
}

func (m maker) condition(left int) string {
	if left > 0 {
		switch m.Intn(6) {
		case 0:
			return "!(" + m.condition(left-1) + ")"
		case 1:
			return "(" + m.condition(left-1) + m.pick(" && ", " || ") + m.condition(left-1) + ")"
		}
	}
	if m.Intn(6) == 0 {
		return m.pick("true", "false")
	}
	return "(" + m.number(m.Intn(2)) + m.pick(" < ", " <= ", " > ", " >= ", " == ", " != ") + m.number(0) + ")"
}

func (m maker) block(left int) string {
	return "{ " + m.statements(m.Intn(4), left-1) + "}"
}

func (m maker) statements(number, left int) string {
	var text strings.Builder
	for range number {
		text.WriteString(m.statement(left) + " ")
	}
	return text.String()
}

func (m maker) statement(left int) string {
	if left > 0 {
		switch m.Intn(5) {
		case 0:
			return "if " + m.condition(1) + " " + m.block(left)
		case 1:
			return "if " + m.condition(1) + " " + m.block(left) + " else " + m.block(left)
		case 2:
			return "while " + m.condition(1) + " " + m.block(left)
		}
	}
	switch m.Intn(7) {
	case 0:
		return m.pick("a", "b") + "[" + m.number(0) + "] := " + m.number(1) + ";"
	case 1, 2:
		return "input " + m.pick("x", "y", "z") + ";"
	case 3:
		return "assert " + m.condition(2) + ";"
	case 4:
		return "skip;"
	}
	name := m.pick("x", "y", "z")
	return name + " := " + m.pick(name+" + 1", m.number(2)) + ";"
}

// program makes texts until check takes one: some have too many sites.
func (m maker) program(left int) (string, api.Prog) {
	for {
		text := "var x; array a[3]; var y; var z; array b[4]; " + m.statements(1+m.Intn(5), left)
		if p, err := check.Text(text); err == nil {
			return text, p
		}
	}
}

func (m maker) tape() []int64 {
	tape := make([]int64, 12)
	for i := range tape {
		tape[i] = m.Int63n(6) - 1
	}
	return tape
}

// P8.1, P8.2, P8.3: programs by chance, shallow and deep.
func TestProgramsByChance(t *testing.T) {
	m := maker{rand.New(rand.NewSource(8))}
	far := 0
	for i := range 1500 {
		text, p := m.program(2 + i%4)
		g := heldByTheWords(t, text, p)
		wantWellFormed(t, text, g)
		for range 3 {
			if wantSideBySide(t, text, g, m.tape(), 80) > 9 {
				far++
			}
		}
		if t.Failed() {
			t.FailNow()
		}
	}
	if far < 300 {
		t.Errorf("only %d runs go far", far)
	}
}

// shapes are all rows of so many statements, of skips, ifs and whiles nested in every way.
func shapes(number int) []string {
	if number == 0 {
		return []string{""}
	}
	var all []string
	for inside := range number {
		for _, behind := range shapes(number - 1 - inside) {
			if inside == 0 {
				all = append(all, "skip; "+behind)
			}
			for _, block := range shapes(inside) {
				all = append(all, "if true { "+block+"} "+behind, "while true { "+block+"} "+behind)
			}
			for first := range inside + 1 {
				for _, block := range shapes(first) {
					for _, second := range shapes(inside - first) {
						all = append(all, "if true { "+block+"} else { "+second+"} "+behind)
					}
				}
			}
		}
	}
	return all
}

// P8.1, P8.2, P8.3: all programs of few statements.
func TestAllSmallPrograms(t *testing.T) {
	for number := range 5 {
		for _, text := range shapes(number) {
			g := heldByTheWords(t, text, mustText(t, text))
			wantWellFormed(t, text, g)
			if g.Exit != number {
				t.Errorf("P8.1: %q: the exit is %d, want %d", text, g.Exit, number)
			}
			if t.Failed() {
				t.FailNow()
			}
		}
	}
}

func FuzzText(f *testing.F) {
	for _, text := range []string{"", everyKind, "var x; while true { if x < 0 { input x; } else { x := x - 1; } }"} {
		f.Add(text, int64(7), uint(40))
	}
	f.Fuzz(func(t *testing.T, text string, seed int64, fuel uint) {
		p, err := check.Text(text)
		if err != nil {
			return
		}
		g := heldByTheWords(t, text, p)
		wantWellFormed(t, text, g)
		wantSideBySide(t, text, g, maker{rand.New(rand.NewSource(seed))}.tape(), int(fuel%201))
	})
}
