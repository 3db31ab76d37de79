package cfg

import (
	"math"
	"reflect"
	"slices"
	"strings"
	"testing"

	"winnow/api"
	"winnow/check"
)

// everyKind is a program in which each kind of node stands.
const everyKind = "var x; array a[2]; x := 1; a[x] := -x; input x; assert !true || x < 1; skip;" +
	"if x == 1 { skip; } else { x := a[1]; } while x < 0 { input x; }"

func mustText(t *testing.T, text string) api.Prog {
	t.Helper()
	p, err := check.Text(text)
	if err != nil {
		t.Fatalf("Text(%q) is refused: %v", text, err)
	}
	return p
}

// yes and no are the edges of a condition; round and out those of a while's.
func yes(from, to, place int) api.Edge {
	return api.Edge{From: from, To: to, Op: api.EAssume, Place: place, Sense: true}
}

func no(from, to, place int) api.Edge {
	return api.Edge{From: from, To: to, Op: api.EAssume, Place: place}
}

func round(from, to, place int) api.Edge {
	return api.Edge{From: from, To: to, Op: api.EAssume, Place: place, Sense: true, Loop: true}
}

func out(from, to, place int) api.Edge {
	return api.Edge{From: from, To: to, Op: api.EAssume, Place: place, Loop: true}
}

func step(op api.EdgeOp, from, to, place int) api.Edge {
	return api.Edge{From: from, To: to, Op: op, Place: place}
}

func skip(from, to, place int) api.Edge { return step(api.ESkip, from, to, place) }

// wantGraph holds a program's graph against its exit and its edges.
func wantGraph(t *testing.T, text string, exit int, edges ...api.Edge) {
	t.Helper()
	p := mustText(t, text)
	g, code := Lower(p)
	if code != api.OK || g.Nodes != exit+1 || g.Exit != exit || !slices.Equal(g.Edges, edges) {
		t.Errorf("P8.1: Lower(%q) = %d nodes, exit %d, %v, %v, want exit %d, %v", text, g.Nodes, g.Exit, g.Edges, code, exit, edges)
	}
	wantProg(t, text, g.Prog, p)
}

// wantProg holds a graph's Prog against the one that was handed in, with the nodes' places in the text.
func wantProg(t *testing.T, what string, got, want api.Prog) {
	t.Helper()
	if !check.Same(got, want) || !slices.Equal(got.Nodes, want.Nodes) {
		t.Errorf("P8.1: %s: the graph's Prog is %v, want %v", what, got, want)
	}
}

// The chapter's examples.
func TestExamples(t *testing.T) {
	for _, text := range []string{"", "var x;", "array a[3];", "var x; array a[2]; var y;"} {
		wantGraph(t, text, 0)
	}
	wantGraph(t, "var x; x := 1; skip;", 2, step(api.EAssign, 0, 1, 1), skip(1, 2, 3))
	wantGraph(t, "var x; while x < 3 { x := x + 1; } assert x == 3;", 3,
		round(0, 1, 2), out(0, 2, 2), step(api.EAssign, 1, 0, 6), step(api.EAssert, 2, 3, 10))
	wantGraph(t, "var x; if x > 0 { } else { skip; } while true { }", 3,
		yes(0, 2, 2), no(0, 1, 2), skip(1, 2, 7), round(2, 2, 9), out(2, 3, 9))
	wantGraph(t, "var x; while x < 1 { if x == 0 { input x; } }", 3,
		round(0, 1, 2), out(0, 3, 2), yes(1, 2, 7), no(1, 0, 7), step(api.EInput, 2, 0, 11))
	p := mustText(t, "var x; x := 1; skip;")
	for place, want := range map[int]int{0: -1, 1: 0, 2: -1, 3: 1, -1: -1, 9: -1} {
		if node := At(p, place); node != want {
			t.Errorf("P8.2: At(.., %d) = %d, want %d", place, node, want)
		}
	}
}

// P8.1: the zero Prog is the program of no statement.
func TestZeroProg(t *testing.T) {
	g, code := Lower(api.Prog{})
	if code != api.OK || g.Nodes != 1 || g.Exit != 0 || len(g.Edges) != 0 || !check.Same(g.Prog, api.Prog{}) {
		t.Errorf("P8.1: Lower of the zero Prog = %v, %v", g, code)
	}
	for _, place := range []int{-1, 0, 1} {
		if node := At(api.Prog{}, place); node != -1 {
			t.Errorf("P8.2: At of the zero Prog, %d = %d", place, node)
		}
	}
}

// P8.1: each kind of stepping node as the only one, and with others ahead and behind.
func TestEachKind(t *testing.T) {
	declared := "var x; array a[2]; "
	for _, c := range []struct {
		text string
		size int
		op   api.EdgeOp
	}{
		{"x := 5;", 2, api.EAssign}, {"x := a[x] / -x;", 6, api.EAssign},
		{"a[1] := 5;", 3, api.EStore}, {"a[a[0]] := x % 2;", 6, api.EStore},
		{"input x;", 1, api.EInput},
		{"assert x == 0;", 4, api.EAssert}, {"assert true;", 2, api.EAssert},
		{"skip;", 1, api.ESkip},
	} {
		wantGraph(t, declared+c.text, 1, step(c.op, 0, 1, 2))
		wantGraph(t, declared+"skip; "+c.text+" skip;", 3, skip(0, 1, 2), step(c.op, 1, 2, 3), skip(2, 3, 3+c.size))
	}
	for _, c := range []struct {
		condition string
		size      int
	}{{"true", 1}, {"x < 1", 3}, {"!(a[x] == 1 && x != 0)", 9}} {
		behind := 3 + c.size + 2
		wantGraph(t, declared+"if "+c.condition+" { }", 1, yes(0, 1, 3), no(0, 1, 3))
		wantGraph(t, declared+"if "+c.condition+" { skip; }", 2, yes(0, 1, 3), no(0, 2, 3), skip(1, 2, behind-1))
		wantGraph(t, declared+"while "+c.condition+" { }", 1, round(0, 0, 3), out(0, 1, 3))
		wantGraph(t, declared+"while "+c.condition+" { skip; }", 2, round(0, 1, 3), out(0, 2, 3), skip(1, 0, behind-1))
		wantGraph(t, declared+"skip; if "+c.condition+" { } skip;", 3, skip(0, 1, 2), yes(1, 2, 4), no(1, 2, 4), skip(2, 3, behind))
		wantGraph(t, declared+"skip; while "+c.condition+" { } skip;", 3, skip(0, 1, 2), round(1, 1, 4), out(1, 2, 4), skip(2, 3, behind))
	}
}

// P8.1: blocks: empty, absent, nested, and what follows the last statement in them.
func TestBlocks(t *testing.T) {
	for _, c := range []struct {
		text  string
		exit  int
		edges []api.Edge
	}{
		// An if without else, with empty blocks, with both: alone and with a statement behind it.
		{"if true { }", 1, []api.Edge{yes(0, 1, 1), no(0, 1, 1)}},
		{"if true { } else { }", 1, []api.Edge{yes(0, 1, 1), no(0, 1, 1)}},
		{"if true { skip; } else { }", 2, []api.Edge{yes(0, 1, 1), no(0, 2, 1), skip(1, 2, 3)}},
		{"if true { } else { skip; }", 2, []api.Edge{yes(0, 2, 1), no(0, 1, 1), skip(1, 2, 4)}},
		{"if true { skip; } else { skip; }", 3, []api.Edge{yes(0, 1, 1), no(0, 2, 1), skip(1, 3, 3), skip(2, 3, 5)}},
		{"if true { skip; skip; } else { skip; skip; }", 5, []api.Edge{yes(0, 1, 1), no(0, 3, 1), skip(1, 2, 3), skip(2, 5, 4), skip(3, 4, 6), skip(4, 5, 7)}},
		{"if true { skip; } skip;", 3, []api.Edge{yes(0, 1, 1), no(0, 2, 1), skip(1, 2, 3), skip(2, 3, 4)}},
		{"if true { } else { } skip;", 2, []api.Edge{yes(0, 1, 1), no(0, 1, 1), skip(1, 2, 4)}},
		{"if true { skip; } else { } skip;", 3, []api.Edge{yes(0, 1, 1), no(0, 2, 1), skip(1, 2, 3), skip(2, 3, 5)}},
		{"if true { skip; } else { skip; } skip;", 4, []api.Edge{yes(0, 1, 1), no(0, 2, 1), skip(1, 3, 3), skip(2, 3, 5), skip(3, 4, 6)}},
		// The block of a while leads back to it.
		{"while true { skip; skip; } skip;", 4, []api.Edge{round(0, 1, 1), out(0, 3, 1), skip(1, 2, 3), skip(2, 0, 4), skip(3, 4, 5)}},
		{"while true { while false { } }", 2, []api.Edge{round(0, 1, 1), out(0, 2, 1), round(1, 1, 4), out(1, 0, 4)}},
		{"while true { while false { skip; } }", 3, []api.Edge{round(0, 1, 1), out(0, 3, 1), round(1, 2, 4), out(1, 0, 4), skip(2, 1, 6)}},
		{"while true { while false { } skip; } skip;", 4, []api.Edge{round(0, 1, 1), out(0, 3, 1), round(1, 1, 4), out(1, 2, 4), skip(2, 0, 6), skip(3, 4, 7)}},
		{"while true { if true { } }", 2, []api.Edge{round(0, 1, 1), out(0, 2, 1), yes(1, 0, 4), no(1, 0, 4)}},
		{"while true { if true { skip; } else { skip; } } skip;", 5,
			[]api.Edge{round(0, 1, 1), out(0, 4, 1), yes(1, 2, 4), no(1, 3, 4), skip(2, 0, 6), skip(3, 0, 8), skip(4, 5, 9)}},
		{"while true { if true { } else { } skip; }", 3, []api.Edge{round(0, 1, 1), out(0, 3, 1), yes(1, 2, 4), no(1, 2, 4), skip(2, 0, 7)}},
		// A while in the blocks of an if.
		{"if true { while false { } }", 2, []api.Edge{yes(0, 1, 1), no(0, 2, 1), round(1, 1, 4), out(1, 2, 4)}},
		{"if true { while false { skip; } } else { while true { } } skip;", 5,
			[]api.Edge{yes(0, 1, 1), no(0, 3, 1), round(1, 2, 4), out(1, 4, 4), skip(2, 1, 6), round(3, 3, 9), out(3, 4, 9), skip(4, 5, 11)}},
		// What stands behind an if or while within a block.
		{"if true { if true { skip; } skip; } skip;", 5, []api.Edge{yes(0, 1, 1), no(0, 4, 1), yes(1, 2, 4), no(1, 3, 4), skip(2, 3, 6), skip(3, 4, 7), skip(4, 5, 8)}},
		{"if true { if true { if true { } } } skip;", 4, []api.Edge{yes(0, 1, 1), no(0, 3, 1), yes(1, 2, 4), no(1, 3, 4), yes(2, 3, 7), no(2, 3, 7), skip(3, 4, 9)}},
		// An else goes with the if whose first block it stands behind.
		{"if true { if false { skip; } } else { skip; }", 4, []api.Edge{yes(0, 1, 1), no(0, 3, 1), yes(1, 2, 4), no(1, 4, 4), skip(2, 4, 6), skip(3, 4, 8)}},
		{"if true { if false { skip; } else { skip; } }", 4, []api.Edge{yes(0, 1, 1), no(0, 4, 1), yes(1, 2, 4), no(1, 3, 4), skip(2, 4, 6), skip(3, 4, 8)}},
		{"if true { } if false { } else { skip; }", 3, []api.Edge{yes(0, 1, 1), no(0, 1, 1), yes(1, 3, 4), no(1, 2, 4), skip(2, 3, 7)}},
		{"if true { } else { if false { } else { skip; } } skip;", 4,
			[]api.Edge{yes(0, 3, 1), no(0, 1, 1), yes(1, 3, 5), no(1, 2, 5), skip(2, 3, 8), skip(3, 4, 9)}},
	} {
		wantGraph(t, c.text, c.exit, c.edges...)
	}
}

// P8.2: all places of a tree, and those beyond its ends.
func TestAtEachPlace(t *testing.T) {
	for _, text := range []string{"", "var x;", "skip;", everyKind, "while true { if true { skip; } else { skip; } } skip;"} {
		p := mustText(t, text)
		number := 0
		for place, n := range p.Nodes {
			want := -1
			switch n.Kind {
			case api.KAssign, api.KStore, api.KInput, api.KAssert, api.KSkip, api.KIf, api.KWhile:
				want = number
				number++
			}
			if node := At(p, place); node != want {
				t.Errorf("P8.2: %q: At(.., %d) = %d, want %d", text, place, node, want)
			}
		}
		for _, place := range []int{math.MinInt, math.MinInt32, -2, -1, len(p.Nodes), len(p.Nodes) + 1, api.MaxNodes, math.MaxInt32, math.MaxInt} {
			if node := At(p, place); node != -1 {
				t.Errorf("P8.2: %q: At(.., %d) = %d, want -1", text, place, node)
			}
		}
		if g, _ := Lower(p); g.Exit != number {
			t.Errorf("P8.1: %q: the exit is %d, want %d", text, g.Exit, number)
		}
	}
}

// P8.2: room behind the nodes holds no place.
func TestAtBehindTheNodes(t *testing.T) {
	long := mustText(t, "skip; skip; skip;").Nodes
	short := mustText(t, "skip;")
	short.Nodes = long[:1]
	for place, want := range []int{0, -1, -1, -1} {
		if node := At(short, place); node != want {
			t.Errorf("P8.2: At(.., %d) = %d, want %d", place, node, want)
		}
	}
}

// wantNone holds a refusal: its number, zeros beside it, and no node.
func wantNone(t *testing.T, what string, p api.Prog) {
	t.Helper()
	if g, code := Lower(p); code != api.ErrPut || !reflect.DeepEqual(g, api.Graph{}) {
		t.Errorf("P8.1: %s: Lower = %v, %v", what, g, code)
	}
	for place := -1; place <= len(p.Nodes); place++ {
		if node := At(p, place); node != -1 {
			t.Errorf("P8.2: %s: At(.., %d) = %d", what, place, node)
		}
	}
}

// P8.1, P8.2: a Prog that check.Good refuses, by any one of its lists.
func TestProgsThatArentGood(t *testing.T) {
	spoil := map[string]func(p *api.Prog){
		"nothing but nodes":  func(p *api.Prog) { *p = api.Prog{Nodes: p.Nodes} },
		"no nodes":           func(p *api.Prog) { p.Nodes = nil },
		"a node less":        func(p *api.Prog) { p.Nodes = p.Nodes[:len(p.Nodes)-1] },
		"too many nodes":     func(p *api.Prog) { p.Nodes = make([]api.Node, 1000) },
		"another scalar":     func(p *api.Prog) { p.Scalars[0] = "y" },
		"no scalar":          func(p *api.Prog) { p.Scalars = nil },
		"a scalar more":      func(p *api.Prog) { p.Scalars = append(p.Scalars, "y") },
		"an array below 0":   func(p *api.Prog) { p.Arrays[0].Len = -1 },
		"an array's name":    func(p *api.Prog) { p.Arrays[0].Name = "b" },
		"no array":           func(p *api.Prog) { p.Arrays = nil },
		"a symbol too great": func(p *api.Prog) { p.Symbols[2] = 7 },
		"no symbols":         func(p *api.Prog) { p.Symbols = nil },
		"another site":       func(p *api.Prog) { p.SiteOf[4] = 9 },
		"no sites of nodes":  func(p *api.Prog) { p.SiteOf = nil },
		"a site's node":      func(p *api.Prog) { p.Sites[0]++ },
		"no sites":           func(p *api.Prog) { p.Sites = nil },
		"no kind":            func(p *api.Prog) { p.Nodes[4].Kind = 99 },
		"a kind below 0":     func(p *api.Prog) { p.Nodes[4].Kind = math.MinInt },
		"a depth":            func(p *api.Prog) { p.Nodes[2].Depth = -1 },
		"a statement's name": func(p *api.Prog) { p.Nodes[2].Name = "q" },
	}
	for what, change := range spoil {
		p := mustText(t, everyKind)
		change(&p)
		if check.Good(p) {
			t.Fatalf("%s: the Prog is still good", what)
		}
		wantNone(t, what, p)
	}
	wantNone(t, "no program", api.Prog{Scalars: []string{"x"}})
}

// P8.1: the deepest blocks and the longest program that there may be.
func TestGreatPrograms(t *testing.T) {
	// A statement of the program has Depth 1, and each block puts one two deeper; 23 is the greatest that an if may have.
	levels := (api.MaxNest - 2) / 2
	for _, word := range []string{"if", "while"} {
		text := strings.Repeat(word+" true { ", levels) + "skip; " + strings.Repeat("} ", levels) + "skip;"
		heldByTheWords(t, text, mustText(t, text))
	}
	g, code := Lower(mustText(t, strings.Repeat("skip; ", api.MaxNodes)))
	if code != api.OK || g.Nodes != api.MaxNodes+1 || g.Exit != api.MaxNodes || len(g.Edges) != api.MaxNodes {
		t.Fatalf("P8.1: a long program has %d nodes and %d edges, exit %d, %v", g.Nodes, len(g.Edges), g.Exit, code)
	}
	for i, e := range g.Edges {
		if e != skip(i, i+1, i) {
			t.Errorf("P8.1: the edge %d of a long program is %v", i, e)
		}
	}
}
