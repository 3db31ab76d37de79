package tpfb

import (
	"fmt"
	"slices"
	"testing"

	"winnow/api"
	"winnow/cfg"
	"winnow/check"
	"winnow/interp"
	"winnow/parse"
	"winnow/print"
	"winnow/walk"
)

// grower makes trees by chance, node by node; their names needn't be declared, nor their sorts fit.
type grower struct {
	maker
	nodes []api.Node
}

func (g *grower) put(depth int, kind api.NodeKind, named bool) *api.Node {
	n := api.Node{Depth: depth, Kind: kind, At: g.Int() - g.Int()}
	if named {
		n.Name = g.pick("x", "y", "_", "a9", "abcdefghijklmnop", "IF", "whiles")
	}
	g.nodes = append(g.nodes, n)
	return &g.nodes[len(g.nodes)-1]
}

func (g *grower) expression(depth, left int) {
	switch choice := g.Intn(8); {
	case left > 0 && choice < 4:
		g.put(depth, api.KBinary, false).Op = api.OpAdd + api.Op(g.Intn(13))
		g.expression(depth+1, left-1)
		g.expression(depth+1, left-1)
	case left > 0 && choice < 6:
		g.put(depth, api.KUnary, false).Op = api.OpNeg + api.Op(g.Intn(2))
		g.expression(depth+1, left-1)
	case left > 0 && choice == 6:
		g.put(depth, api.KLoad, true)
		g.expression(depth+1, left-1)
	case choice < 3:
		g.put(depth, api.KNum, false).Num = g.Int63() >> g.Intn(63)
	case choice < 4:
		g.put(depth, api.KBool, false).Num = g.Int63n(2)
	default:
		g.put(depth, api.KRead, true)
	}
}

func (g *grower) block(depth, left int) {
	g.put(depth, api.KBlock, false)
	for range g.Intn(3) {
		g.statement(depth+1, left-1)
	}
}

func (g *grower) statement(depth, left int) {
	kind := []api.NodeKind{api.KAssign, api.KStore, api.KInput, api.KAssert, api.KSkip, api.KIf, api.KIf, api.KWhile}[g.Intn(5+min(left, 3))]
	g.put(depth, kind, kind == api.KAssign || kind == api.KStore || kind == api.KInput)
	if kind != api.KInput && kind != api.KSkip {
		g.expression(depth+1, g.Intn(4))
	}
	switch kind {
	case api.KStore:
		g.expression(depth+1, g.Intn(4))
	case api.KIf, api.KWhile:
		g.block(depth+1, left)
		if kind == api.KIf && g.Intn(2) == 0 {
			g.block(depth+1, left)
		}
	}
}

// tree is one that Shape takes mostly; some are too deep, or have too many nodes.
func (g *grower) tree() []api.Node {
	g.nodes = nil
	for range g.Intn(4) {
		if g.Intn(2) == 0 {
			g.put(1, api.KVar, true)
		} else {
			g.put(1, api.KArray, true).Num = g.Int63() >> g.Intn(63)
		}
	}
	for range g.Intn(12) {
		g.statement(1, g.Intn(12))
	}
	return g.nodes
}

func sameTree(one, other []api.Node) bool {
	return slices.EqualFunc(one, other, func(n, m api.Node) bool {
		n.At = m.At
		return n == m
	})
}

// P0.2: the text of each tree is read as the tree; what is no tree has no text.
func TestTreesAndTexts(t *testing.T) {
	g := grower{maker: newMaker(288)}
	seen := map[string]int{}
	for range 3000 {
		nodes := g.tree()
		if len(nodes) > 0 && g.Intn(6) == 0 {
			n := &nodes[g.Intn(len(nodes))]
			n.Depth += g.Intn(3) - 1
			n.Kind += api.NodeKind(g.Intn(3) - 1)
		}
		refused, _ := parse.Shape(nodes)
		text, code := print.Text(nodes)
		switch {
		case refused != code && code != api.ErrPrint:
			t.Fatalf("P0.2: Shape of %v = %v, Text %v", nodes, refused, code)
		case refused != api.OK:
			seen["no tree"]++
			continue
		case code == api.ErrPrint:
			continue
		}
		seen["tree"]++
		if again, err := parse.Parse(text); err != nil || !sameTree(again, nodes) {
			t.Fatalf("P0.2: %q is read as %v, %v, but it is the text of %v", text, again, err, nodes)
		}
	}
	wantSeen(t, seen, map[string]int{"tree": 1500, "no tree": 200})
}

// wantTree holds that what a text is read as is a tree, whose text is read as it; it tells whether the text is read.
func wantTree(t testing.TB, text string) bool {
	t.Helper()
	nodes, err := parse.Parse(text)
	if err != nil {
		return false
	}
	refused, _ := parse.Shape(nodes)
	other, code := print.Text(nodes)
	if refused != api.OK || code != api.OK && code != api.ErrPrint {
		t.Fatalf("P0.2: %q is read as %v, which is no tree: %v, %v", text, nodes, refused, code)
	}
	if again, err := parse.Parse(other); code == api.OK && (err != nil || !sameTree(again, nodes)) {
		t.Fatalf("P0.2: %q is read otherwise than %q, which is its tree's text", text, other)
	}
	return true
}

// P0.2: whatever text is read, it is read as a tree.
func TestWhatIsReadIsATree(t *testing.T) {
	m := newMaker(289)
	seen := map[string]int{}
	for range 4000 {
		text := m.anyText()
		if m.Intn(3) == 0 {
			text = m.loose(pieces(t, m.program(3)))
		}
		if wantTree(t, text) {
			seen["read"]++
		} else {
			seen["refused"]++
		}
	}
	for _, w := range wrongTexts() {
		if wantTree(t, w.text) != (w.code >= api.ErrTwice) {
			t.Errorf("P0.2: %q isn't refused by %v where it is read", w.text, w.code)
		}
	}
	wantSeen(t, seen, map[string]int{"read": 1500, "refused": 1000})
}

func tellStore(s api.Store) string { return fmt.Sprint(len(s.Vars), s.Vars, len(s.Arrays), s.Arrays) }

// ahead of a step, what a run of the graph has come to.
type stop struct {
	node  int
	store api.Store
}

// wantSideBySide holds that the runs of a tree and of its graph agree in every step, and tells how they end.
func wantSideBySide(t testing.TB, p api.Prog, tape []int64, fuel int) api.Outcome {
	t.Helper()
	graph, code := cfg.Lower(p)
	out, end, code2 := interp.Run(p, tape, fuel)
	out2, end2, code3 := walk.Run(p, tape, fuel)
	path, code4 := walk.Path(p, tape, fuel)
	if code != api.OK || code2 != api.OK || code3 != api.OK || code4 != api.OK || out != out2 || tellStore(end) != tellStore(end2) {
		t.Fatalf("P0.2: on %v with %d the tree's run ends %+v, %v, the graph's %+v, %v", tape, fuel, out, end, out2, end2)
	}
	var stops []stop
	for node, store := range walk.Stops(p, tape, fuel) {
		stops = append(stops, stop{node, store})
	}
	steps, reads := 0, 0
	for moment := range interp.Moments(p, tape, fuel) {
		if steps >= len(stops) || moment.Steps != steps || moment.Reads != reads || tellStore(moment.Store) != tellStore(stops[steps].store) {
			t.Fatalf("P0.2: on %v with %d the tree is at %+v, the graph's stops are %v", tape, fuel, moment, stops)
		}
		if node := stops[steps].node; moment.Place < 0 && node != graph.Exit || moment.Place >= 0 && node != cfg.At(p, moment.Place) {
			t.Fatalf("P0.2: on %v with %d the tree is at %+v, the graph at %d", tape, fuel, moment, node)
		}
		if steps < len(path) {
			reads += wantStep(t, p, graph.Edges[path[steps]], moment, stops[steps].node, stops[steps+1].node)
		}
		steps++
	}
	if steps != len(stops) || len(path) != len(stops)-1 || reads != out.Reads {
		t.Fatalf("P0.2: on %v with %d the tree has %d looks and %d reads, the graph %d and %d edges: %+v", tape, fuel, steps, reads, len(stops), len(path), out)
	}
	return out
}

// wantStep holds that an edge is the step of the statement that comes, and tells how many numbers it reads.
func wantStep(t testing.TB, p api.Prog, e api.Edge, moment api.Moment, from, to int) int {
	t.Helper()
	place := e.Place
	if e.Op == api.EAssume {
		place--
	}
	op := map[api.NodeKind]api.EdgeOp{
		api.KAssign: api.EAssign, api.KStore: api.EStore, api.KInput: api.EInput, api.KAssert: api.EAssert, api.KSkip: api.ESkip, api.KIf: api.EAssume, api.KWhile: api.EAssume,
	}[p.Nodes[moment.Place].Kind]
	if place != moment.Place || e.Op != op || e.From != from || e.To != to {
		t.Fatalf("P0.2: the edge %+v is gone from %d to %d, where the tree is at %+v", e, from, to, moment)
	}
	if e.Op == api.EInput {
		return 1
	}
	return 0
}

// P0.2: the runs of the tree and of the graph agree in every step: programs of each shape, and by chance, with each fuel up to their end.
func TestTreeAndGraphSideBySide(t *testing.T) {
	t.Parallel()
	seen := map[string]int{}
	hold := func(p api.Prog, tape []int64) {
		t.Helper()
		out := wantSideBySide(t, p, tape, 90)
		seen[fmt.Sprint("end ", out.Kind)]++
		seen["far"] += min(out.Steps/10, 1)
		for fuel := range min(out.Steps+2, 12) {
			wantSideBySide(t, p, tape, fuel)
		}
	}
	for _, text := range texts() {
		for _, tape := range tapes() {
			hold(mustText(t, text), tape)
		}
	}
	m := newMaker(290)
	for i := range 800 {
		hold(mustText(t, m.program(i%5)), m.tape())
	}
	wantSeen(t, seen, map[string]int{"end 0": 150, "end 1": 300, "end 2": 150, "end 3": 50, "far": 300})
}

// P0.2: what check takes of a text it takes of the text's tree, printed, and the programs are the same.
func TestProgramsAndTexts(t *testing.T) {
	m := newMaker(291)
	list := texts()
	for range 300 {
		list = append(list, m.program(3))
	}
	for _, text := range list {
		p := mustText(t, text)
		for _, other := range []string{printed(t, text), m.loose(pieces(t, text))} {
			if q := mustText(t, other); !check.Same(p, q) {
				t.Fatalf("P0.2: the programs of %q and %q aren't the same: %v, %v", text, other, p, q)
			}
		}
	}
}
