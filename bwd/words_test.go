package bwd

import (
	"slices"
	"testing"

	"winnow/api"
	"winnow/env"
	"winnow/fwd"
	"winnow/move"
	"winnow/part"
	"winnow/table"
	"winnow/wto"
)

// words is a pass by the chapter's words, written down as they stand, and what was seen on the way.
type words struct {
	p     api.Prog
	c     api.Config
	t     api.Table
	site  int
	parts api.Part
	order []api.Elem

	b            api.Table
	n            []int
	applications int

	sweeps  int
	leapt   int            // how often Widen told another one than Join
	cut     int            // Envs that were beyond T behind the sweeps
	empty   int            // Seeds that told nothing
	both    int            // links with a Seed and a Pre
	closed  int            // vertices whose T is dead, with a link that holds the site
	taken   int            // narrower tables that were taken
	ends    map[string]int // why the narrowing ended
	reached int            // vertices that aren't dead in the answer
}

func newWords(t testing.TB, p api.Prog, c api.Config, u api.Table, site int) *words {
	t.Helper()
	w := &words{p: p, c: c, t: u, site: site, ends: map[string]int{}}
	var code api.Errno
	if w.parts, code = part.Split(p, c); code != api.OK {
		t.Fatalf("Split with %+v = %v", c, code)
	}
	var arcs []api.Arc
	for _, l := range w.parts.Links {
		arcs = append(arcs, api.Arc{From: l.From, To: l.To})
	}
	if w.order, code = wto.Order(len(w.parts.Verts), arcs, 0); code != api.OK || len(w.order) != len(w.parts.Verts) {
		t.Fatalf("Order of %v = %v, %v", arcs, w.order, code)
	}
	for range w.parts.Verts {
		w.b = append(w.b, lost())
		w.n = append(w.n, 0)
	}
	return w
}

// must is an Env of a call that refuses nothing here.
func must(e api.Env, code api.Errno) api.Env {
	if code != api.OK {
		panic(code.Error())
	}
	return e
}

func dead(e api.Env) bool { return env.Norm(e).Dead }

// holds tells whether a link's edge holds the site.
func (w *words) holds(l api.Link) bool { return slices.Contains(move.Holds(w.p, l.Edge), w.site) }

// z is the chapter's z(v) by a table.
func (w *words) z(b api.Table, v int) api.Env {
	y := lost()
	if !dead(w.t[v]) {
		for _, l := range w.parts.Links {
			if l.From == v {
				y = w.link(b, l, y)
			}
		}
	}
	return env.Meet(y, w.t[v])
}

// link is what the chapter does for one link.
func (w *words) link(b api.Table, l api.Link, y api.Env) api.Env {
	seeded := w.holds(l)
	if seeded {
		w.applications++
		seed := must(move.Seed(w.p, l.Edge, w.t[l.From], w.site))
		y = env.Join(y, seed)
		if dead(seed) {
			w.empty++
		}
	}
	f := env.Meet(b[l.To], w.t[l.To])
	if !dead(f) {
		w.applications++
		y = env.Join(y, must(move.Pre(w.p, l.Edge, w.t[l.From], f)))
		if seeded {
			w.both++
		}
	}
	return y
}

// sweep is the chapter's step 2; it tells whether a vertex has changed.
func (w *words) sweep() bool {
	w.sweeps++
	before := append(api.Table(nil), w.b...)
	for i := len(w.order) - 1; i >= 0; i-- {
		v := w.order[i].Vertex
		x := w.z(w.b, v)
		if env.Leq(x, w.b[v]) {
			continue
		}
		y := env.Join(w.b[v], x)
		if w.order[i].Head && w.n[v] >= w.c.Delay {
			w.b[v] = env.Widen(w.b[v], y, w.c.Thresholds)
			if !env.Same(w.b[v], y) {
				w.leapt++
			}
		} else {
			w.b[v] = y
		}
		w.n[v]++
	}
	return !table.Same(before, w.b)
}

// narrow is the chapter's step 5, once; it tells whether there may be a next time.
func (w *words) narrow() bool {
	var u api.Table
	for v := range w.b {
		u = append(u, env.Meet(w.b[v], w.z(w.b, v)))
	}
	if table.Same(u, w.b) {
		w.ends["the same"]++
		return false
	}
	held := true
	for v := range u {
		here := env.Leq(w.z(u, v), u[v])
		held = held && here
	}
	if !held {
		w.ends["not held"]++
		return false
	}
	w.b = u
	w.taken++
	return true
}

// pass is the whole, by the chapter's steps 1 to 6.
func (w *words) pass() *words {
	for w.sweep() {
	}
	for v := range w.b {
		if !env.Leq(w.b[v], w.t[v]) {
			w.cut++
		}
		w.b[v] = env.Meet(w.b[v], w.t[v])
	}
	for range w.c.Narrow {
		if !w.narrow() {
			return w
		}
	}
	w.ends["used up"]++
	return w
}

// wantWords holds an answer of Run against the chapter's words, with what follows of it, and tells what was seen.
func wantWords(t testing.TB, p api.Prog, c api.Config, u api.Table, site int) *words {
	t.Helper()
	w := newWords(t, p, c, u, site).pass()
	got, number, code := Run(p, c, u, site)
	if code != api.OK {
		t.Fatalf("P23.1: Run with %+v within %v from %d = %v", c, u, site, code)
	}
	if len(got) != len(w.b) || tellTable(got) != tellTable(w.b) {
		t.Fatalf("P23.1: Run with %+v within %v from %d = %v, want %v", c, u, site, got, w.b)
	}
	if number != w.applications {
		t.Fatalf("P23.1: Run with %+v within %v from %d has %d applications, want %d", c, u, site, number, w.applications)
	}
	wantFollows(t, w, got)
	for _, l := range w.parts.Links {
		if dead(u[l.From]) && w.holds(l) {
			w.closed++
		}
	}
	for _, e := range got {
		if !e.Dead {
			w.reached++
		}
	}
	return w
}

// wantFollows holds what P23.2 says of an answer: it fits, is below the table, and is held by itself.
func wantFollows(t testing.TB, w *words, got api.Table) {
	t.Helper()
	if !table.Fits(w.p, w.c, got) {
		t.Fatalf("P23.2: the answer %v doesn't fit", got)
	}
	if !table.Leq(got, w.t) {
		t.Fatalf("P23.2: the answer %v isn't below the table %v", got, w.t)
	}
	for v := range got {
		if z := w.z(got, v); !env.Leq(z, got[v]) {
			t.Fatalf("P23.2: by the answer %v there comes %v to the vertex %d", got, z, v)
		}
	}
}

// texts are programs of each shape, straight, with ifs, with loops, with loops in loops and with arrays; with sites ahead of, in and behind loops, several in one statement and in one condition.
func texts() []string {
	return []string{
		"assert false;", short, never, "var x; x := 1 / x;", "assert 1 / 0 == 0 || true;",
		"var x; var y; x := 1; y := 7 / x + 5 % y; x := x / y;",
		"var x; var y; input x; if x > 0 { y := 1; } else { y := 0; } if y == 1 { assert x > 0; }",
		"var x; input x; if 6 / x > 1 && 8 % (x - 2) == 0 { assert x != 1; } else { } x := x / (x - 3);",
		"var x; assert x > 0; x := 1; while x < 2 { x := 2; }",
		"var x; while x < 3 { x := x + 1; } assert x == 3;", "var x; input x; assert x < 9; while x < 100 { x := x + 2; assert x != 51; } assert x == 100;",
		seven, "var x; while true { } assert x == 0;", "var x; while x == 0 { assert x != 0; }", "var x; input x; while 6 / x > 1 || x == 9 / x { x := x - 1; }",
		"var i; while i >= 0 { i := i + 1; } assert i < 0;",
		"var x; var y; input y; while x < y { x := x + 1; if x == 7 { y := y / (x - 6); } } assert y != x;",
		falling, "var x; var y; input y; while x < y { x := x + 1; assert x < 9; } y := 3 / x;",
		nested, "var x; var y; while x < 2 { while y < 2 { y := y + 1; assert x + y < 3; } x := x + 1; }",
		"var x; input x; while x < 9 { while x < 6 { while x < 3 { x := x + 1; } x := x + 1 / x; } x := x + 1; } assert x != 12;",
		"array a[4]; var i; while i < 4 { a[i] := i; i := i + 1; } assert a[i - 1] == 3;",
		"array a[1]; array b[3]; var i; input i; a[0] := i; b[a[0] - 6] := b[i] / a[0]; while i < 3 { b[i] := a[0] / (i + 1); i := i + 1; }",
		loop, everything,
	}
}

// withins are some tables that fit: those of forward passes, all stores, none, none at one vertex, some that no pass has made, and some whose Envs aren't in their normal form.
func withins(t testing.TB, p api.Prog, c api.Config) []api.Table {
	first, all := ahead(t, p, c, zeros(t, p)), tops(t, p, c)
	number := len(all)
	raws, none, odd := copied(top(t, p)), copied(top(t, p)), lost()
	for i := range raws.Vars {
		raws.Vars[i] = raw(-10, 11, 3, 7)
		none.Vars[i] = raw(3, 5, 4, 2)
	}
	for i := range raws.Arrays {
		raws.Arrays[i] = raw(-7, 9, 2, 8)
		none.Arrays[i] = api.Num{Bot: true}
	}
	odd.Vars = list(is(1), is(2), is(3), is(4))
	return []api.Table{
		first, all, filled(number, lost()), except(all, number/2, lost()), except(all, number-1, lost()), except(all, 0, lost()),
		except(first, number/2, lost()), ahead(t, p, c, top(t, p)), except(first, number/2, top(t, p)), except(all, number/2, first[number/2]),
		filled(number, raws), except(all, number/3, raws), except(all, number/2, none), filled(number, odd), except(first, number-1, odd),
	}
}

// P23.1, P23.2: programs of each shape, at the corners, within all tables, from each site.
func TestPassesByWords(t *testing.T) {
	t.Parallel()
	several, merged := 0, 0
	seen := map[string]int{}
	for _, text := range texts() {
		p := mustText(t, text)
		for i, c := range append(corners(), plain()) {
			x := mustSplit(t, p, c)
			merged += min(len(x.Merged), 1)
			if last := x.Verts[len(x.Verts)-1]; len(x.Verts) > last.Node+1 {
				several++
			}
			for j, u := range withins(t, p, c) {
				for site := range p.Sites {
					if j > 1 && (i+j+site)%3 > 0 {
						continue
					}
					wantWords(t, p, c, u, site).tellSeen(seen)
				}
			}
		}
	}
	wantSeen(t, seen, map[string]int{"the same": 1000, "used up": 1000, "taken": 40, "leapt": 300, "slow": 300, "cut": 30, "empty": 500, "both": 300, "closed": 500, "reached": 1000})
	if several < 50 || merged < 30 {
		t.Errorf("the passes are too much alike: %d parts with several vertices a node, %d with merged ones", several, merged)
	}
}

// P23.1, P23.2: the tables that rounds make: each pass within the other one's.
func TestRoundsByWords(t *testing.T) {
	t.Parallel()
	seen := map[string]int{}
	for _, text := range texts() {
		p := mustText(t, text)
		for i, c := range append(corners(), plain()) {
			first := ahead(t, p, c, zeros(t, p))
			for site := range p.Sites {
				if (i+site)%2 > 0 {
					continue
				}
				u := first
				for range api.MaxRounds {
					w := wantWords(t, p, c, u, site)
					w.tellSeen(seen)
					u, _, _ = fwd.Run(p, c, env.Meet(w.b[0], zeros(t, p)), w.b)
				}
			}
		}
	}
	wantSeen(t, seen, map[string]int{"the same": 300, "used up": 300, "leapt": 100, "slow": 50, "cut": 20, "empty": 100, "both": 50, "closed": 300, "reached": 300})
}

// tellSeen counts what a pass has had.
func (w *words) tellSeen(seen map[string]int) {
	for why, number := range w.ends {
		seen[why] += number
	}
	for what, number := range map[string]int{
		"taken": w.taken, "leapt": w.leapt, "slow": w.sweeps / 5, "cut": w.cut,
		"empty": w.empty, "both": w.both, "closed": w.closed, "reached": w.reached,
	} {
		seen[what] += min(number, 1)
	}
}

// wantSeen holds that each thing was seen often enough.
func wantSeen(t testing.TB, seen, least map[string]int) {
	t.Helper()
	for what, number := range least {
		if seen[what] < number {
			t.Errorf("the passes are too much alike: %q was seen %d times, of all %v", what, seen[what], seen)
		}
	}
}
