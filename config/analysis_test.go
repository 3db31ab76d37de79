package config

import (
	"fmt"
	"math/big"
	"slices"
	"testing"

	"winnow/api"
	"winnow/cfg"
	"winnow/env"
	"winnow/move"
	"winnow/wto"
)

// analysis goes by the document's points 9 to 13, to the letter, and counts by point 15. Tries are left out: they count nothing, and can only end it sooner.
type analysis struct {
	p     api.Prog
	c     api.Config
	edges []api.Edge
	verts []api.Vertex
	links []api.Link
	order []api.Elem

	posts   int // applications in all
	sweeps  int // the most that a pass had
	changes int // the most that a head had in one pass
	asked   int // the most applications of a sweep forwards
	back    int // the most of one backwards
}

func newAnalysis(t testing.TB, p api.Prog, c api.Config) *analysis {
	t.Helper()
	graph, code := cfg.Lower(p)
	if code != api.OK {
		t.Fatalf("Lower is refused: %v", code)
	}
	a := &analysis{p: p, c: c, edges: graph.Edges}
	var merged []int
	for node := a.find(merged); node >= 0; node = a.find(merged) {
		merged = append(merged, node)
	}
	arcs := make([]api.Arc, len(a.links))
	for i, l := range a.links {
		arcs[i] = api.Arc{From: l.From, To: l.To}
	}
	a.order, code = wto.Order(len(a.verts), arcs, 0)
	if code != api.OK {
		t.Fatalf("Order is refused: %v", code)
	}
	return a
}

// token is the one behind an edge.
func (a *analysis) token(t api.Token, edge int) api.Token {
	e, last := a.edges[edge], len(t.Loops)-1
	inside := last >= 0 && t.Loops[last].Head == e.From
	switch {
	case t.Merged || e.Op != api.EAssume:
	case !e.Loop && len(t.Hist) < a.c.Hist:
		t.Hist = append(slices.Clone(t.Hist), edge)
	case e.Loop && e.Sense && a.c.Unroll > 0 && inside:
		t.Loops = slices.Clone(t.Loops)
		t.Loops[last].Count = min(t.Loops[last].Count+1, a.c.Unroll)
	case e.Loop && e.Sense && a.c.Unroll > 0:
		t.Loops = append(slices.Clone(t.Loops), api.Loop{Head: e.From, Count: 1})
	case e.Loop && !e.Sense && inside:
		t.Loops = slices.Clone(t.Loops[:last])
	}
	return t
}

// find makes the vertices and links, and tells the node that gets one token too many; -1: none does.
func (a *analysis) find(merged []int) int {
	a.verts, a.links = nil, nil
	numbers, tokens := map[string]int{}, map[int]int{}
	vertex := func(node int, t api.Token) int {
		if slices.Contains(merged, node) {
			t = api.Token{Merged: true}
		}
		key := fmt.Sprint(node, t)
		if _, found := numbers[key]; !found {
			numbers[key] = len(a.verts)
			a.verts = append(a.verts, api.Vertex{Node: node, Token: t})
			tokens[node]++
		}
		return numbers[key]
	}
	vertex(0, api.Token{})
	for from := 0; from < len(a.verts); from++ {
		for i, e := range a.edges {
			if e.From != a.verts[from].Node {
				continue
			}
			a.links = append(a.links, api.Link{From: from, To: vertex(e.To, a.token(a.verts[from].Token, i)), Edge: i})
			if tokens[e.To] > a.c.Cap {
				return e.To
			}
		}
	}
	return -1
}

// met is what e has in common with a vertex' Env of a limit, if there is one.
func met(e api.Env, limit api.Table, v int) api.Env {
	if limit == nil {
		return e
	}
	return env.Meet(e, limit[v])
}

// settle makes sweeps in an order until nothing changes, and narrows. What comes to a vertex by a table is told by ask; most is where the most applications of a sweep are kept.
func (a *analysis) settle(order []api.Elem, limit api.Table, most *int, ask func(t api.Table, v int) api.Env) api.Table {
	t := make(api.Table, len(a.verts))
	for v := range t {
		t[v] = api.Env{Dead: true}
	}
	n := make([]int, len(t))
	sweeps := 0
	for changed := true; changed; sweeps++ {
		changed = false
		before := a.posts
		for _, e := range order {
			v := e.Vertex
			x := ask(t, v)
			if env.Leq(x, t[v]) {
				continue
			}
			changed = true
			y := env.Join(t[v], x)
			if e.Head && n[v] >= a.c.Delay {
				y = env.Widen(t[v], y, a.c.Thresholds)
			}
			t[v] = y
			n[v]++
			if e.Head {
				a.changes = max(a.changes, n[v])
			}
		}
		*most = max(*most, a.posts-before)
	}
	a.sweeps = max(a.sweeps, sweeps)
	for v := range t {
		t[v] = met(t[v], limit, v)
	}
	return a.narrow(t, ask)
}

func (a *analysis) narrow(t api.Table, ask func(t api.Table, v int) api.Env) api.Table {
	for range a.c.Narrow {
		u := make(api.Table, len(t))
		for v := range t {
			u[v] = env.Meet(t[v], ask(t, v))
		}
		if slices.EqualFunc(t, u, env.Same) {
			break
		}
		held := true
		for v := range u {
			held = env.Leq(ask(u, v), u[v]) && held
		}
		if !held {
			break
		}
		t = u
	}
	return t
}

// forwards is the pass from an Env within a limit, or without one.
func (a *analysis) forwards(start api.Env, limit api.Table) api.Table {
	return a.settle(a.order, limit, &a.asked, func(t api.Table, v int) api.Env {
		y := api.Env{Dead: true}
		if v == 0 {
			y = env.Norm(start)
		}
		for _, l := range a.links {
			if l.To != v {
				continue
			}
			if e := met(t[l.From], limit, l.From); !e.Dead {
				a.posts++
				after, _, _ := move.Post(a.p, l.Edge, e)
				y = env.Join(y, after)
			}
		}
		return met(y, limit, v)
	})
}

// backwards is the pass from a site within a table.
func (a *analysis) backwards(site int, within api.Table) api.Table {
	order := slices.Clone(a.order)
	slices.Reverse(order)
	return a.settle(order, within, &a.back, func(t api.Table, v int) api.Env {
		y := api.Env{Dead: true}
		if within[v].Dead {
			return y
		}
		for _, l := range a.links {
			if l.From != v {
				continue
			}
			if slices.Contains(move.Holds(a.p, l.Edge), site) {
				a.posts++
				seed, _ := move.Seed(a.p, l.Edge, within[v], site)
				y = env.Join(y, seed)
			}
			if f := env.Meet(t[l.To], within[l.To]); !f.Dead {
				a.posts++
				pre, _ := move.Pre(a.p, l.Edge, within[v], f)
				y = env.Join(y, pre)
			}
		}
		return env.Meet(y, within[v])
	})
}

// alarmed tells whether a site is an alarm of a table.
func (a *analysis) alarmed(t api.Table, site int) bool {
	for _, l := range a.links {
		if _, sites, _ := move.Post(a.p, l.Edge, t[l.From]); slices.Contains(sites, site) {
			return true
		}
	}
	return false
}

// refine tells a site's verdict and its round.
func (a *analysis) refine(zeros api.Env, table api.Table, site int) (api.VerdictKind, int) {
	if !a.alarmed(table, site) {
		return api.Safe, 0
	}
	for round := 1; round <= a.c.Rounds; round++ {
		b := a.backwards(site, table)
		start := env.Meet(b[0], zeros)
		if start.Dead {
			return api.Safe, round
		}
		next := a.forwards(start, b)
		if !a.alarmed(next, site) {
			return api.Safe, round
		}
		if slices.EqualFunc(next, table, env.Same) {
			return api.Unknown, round
		}
		table = next
	}
	return api.Unknown, a.c.Rounds
}

// all analyses the program, and tells the verdicts.
func (a *analysis) all() []api.Verdict {
	zeros, _ := env.Zero(a.p)
	table := a.forwards(zeros, nil)
	var verdicts []api.Verdict
	for site := range a.p.Sites {
		kind, round := a.refine(zeros, table, site)
		verdicts = append(verdicts, api.Verdict{Kind: kind, Round: round})
	}
	return verdicts
}

// wantWithin holds an analysis against the bound, and its parts against those that the bound is made of; it tells how many applications there were.
func wantWithin(t *testing.T, text string, c api.Config) int {
	t.Helper()
	p := mustText(t, text)
	bound, code := Bound(p, c)
	a := newAnalysis(t, p, c)
	a.all()
	if code != api.OK || uint64(a.posts) > bound {
		t.Errorf("P19.3: %q with %+v has %d applications, the bound is %d, %v", text, c, a.posts, bound, code)
	}
	f := formulaOf(sizesOf(p), c)
	for _, part := range []struct {
		what string
		seen int
		most *big.Int
	}{
		{"vertices", len(a.verts), f.V}, {"links", len(a.links), f.L}, {"changes of a head", a.changes - c.Delay, f.K}, {"sweeps", a.sweeps, f.W},
		{"applications of a sweep forwards", a.asked, f.L}, {"applications of a sweep backwards", a.back, product(big.NewInt(2), f.L)},
	} {
		if big.NewInt(int64(part.seen)).Cmp(part.most) > 0 {
			t.Errorf("P19.3: %q with %+v has %d %s, the most are %v", text, c, part.seen, part.what, part.most)
		}
	}
	return a.posts
}

// The tests' own analysis tells what the document tells of its examples.
func TestAnalysisOfTheTests(t *testing.T) {
	narrow := api.Config{Cap: 6, Narrow: 1}
	for _, r := range []struct {
		text  string
		c     api.Config
		posts int
	}{{"", narrow, 0}, {"var x; x := 1;", narrow, 3}, {"skip;", api.Config{Cap: 1}, 2}} {
		if posts := wantWithin(t, r.text, r.c); posts != r.posts {
			t.Errorf("%q has %d applications, want %d", r.text, posts, r.posts)
		}
	}
	const alarm, branch = "var x; input x; assert x > 0;", "var x; var y; input x; if x > 0 { y := 1; } else { y := 0; } if y == 1 { assert x > 0; }"
	safe := func(round int) api.Verdict { return api.Verdict{Kind: api.Safe, Round: round} }
	unknown := func(round int) api.Verdict { return api.Verdict{Kind: api.Unknown, Round: round} }
	for _, r := range []struct {
		text string
		c    api.Config
		last api.Verdict
	}{
		{alarm, api.Config{Cap: 6}, unknown(0)}, {alarm, api.Config{Cap: 6, Rounds: 3}, unknown(2)},
		{branch, api.Config{Cap: 6}, unknown(0)}, {branch, api.Config{Cap: 6, Rounds: 1}, safe(1)}, {branch, api.Config{Cap: 6, Hist: 1}, safe(0)},
		{"array a[4]; var i; while i < 4 { a[i] := i; i := i + 1; }", api.Config{Cap: 1, Thresholds: long(4)}, safe(0)},
		{"array a[4]; var i; while i < 4 { a[i] := i; i := i + 1; }", narrow, safe(0)},
		{"var i; while i >= 0 { i := i + 1; } assert i < 0;", api.Config{Cap: 1}, safe(0)},
		{"var x; input x; x := x * 4; assert x % 2 == 0;", api.Config{Cap: 1}, safe(0)},
		{"var x; if x != 0 { x := 1 / x; }", api.Config{Cap: 1}, safe(0)},
	} {
		verdicts := newAnalysis(t, mustText(t, r.text), r.c).all()
		if last := verdicts[len(verdicts)-1]; last.Kind != r.last.Kind || last.Round != r.last.Round {
			t.Errorf("%q with %+v: %+v, want %+v", r.text, r.c, last, r.last)
		}
		wantWithin(t, r.text, r.c)
	}
	// Of chapter 20's examples: a loop's head has a vertex for each token, or one that is merged.
	const tokens = "var x; input x; if x < 0 { x := 1; } else { skip; } while x < 9 { x := x + 1; }"
	for _, r := range []struct {
		c    api.Config
		seen int
	}{{api.Config{Cap: 6}, 7}, {api.Config{Hist: 1, Cap: 6}, 10}, {api.Config{Unroll: 2, Cap: 6}, 10}, {api.Config{Hist: 1, Unroll: 2, Cap: 3}, 7}} {
		if seen := len(newAnalysis(t, mustText(t, tokens), r.c).verts); seen != r.seen {
			t.Errorf("with %+v there are %d vertices, want %d", r.c, seen, r.seen)
		}
	}
}

// P19.3: programs whose loops settle slowly, with configurations at their ends.
func TestAnalysesAreWithin(t *testing.T) {
	few := func(c api.Config) bool { return c.Fuel == 0 && c.Tries == 0 }
	for _, text := range []string{
		"", "skip;", "var x; assert x < 1;", "while true { }", "while true { while true { } }",
		"var x; while x < 9 { x := x + 2; } assert x == 10;",
		"var x; while x != 7 { if x > 50 { x := x - 3; } else { x := x + 4; } } assert x == 7;",
		// Both ends move, and the class falls late.
		"var x; var y; while true { input y; if y > 0 { x := x + 2; } else { x := x - 2; } if x > 1 { x := 91; } assert x < 91; }",
		"var x; var y; while true { x := x + 6; while y < x { y := y + 4; } x := x - 1; assert y / x != 3; }",
		"var x; var y; var z; while x < 5 { y := x; while y > z { z := z + 2; } x := x + 1; } assert z < 9;",
		"var i; array a[3]; while i < 9 { a[i % 3] := a[(i + 1) % 3] - i; i := i + 1; } assert a[0] < 5;",
	} {
		for _, c := range ends() {
			if few(c) {
				wantWithin(t, text, c)
			}
		}
	}
}
