package fwd

import (
	"testing"

	"winnow/api"
	"winnow/env"
	"winnow/move"
	"winnow/part"
	"winnow/table"
	"winnow/wto"
)

// words is a pass by the chapter's words, written down as they stand, and what was seen on the way.
type words struct {
	p     api.Prog
	c     api.Config
	start api.Env
	limit api.Table
	parts api.Part
	order []api.Elem

	t            api.Table
	n            []int
	applications int

	sweeps  int
	widened int            // how often Widen was asked for
	leapt   int            // how often it told another one than Join
	quiet   int            // vertices but the entry that no application brought anything to
	taken   int            // narrower tables that were taken
	ends    map[string]int // why the narrowing ended
	skipped int            // applications that whoever leaves at the first vertex that isn't held would have left out
}

func newWords(t testing.TB, p api.Prog, c api.Config, start api.Env, limit api.Table) *words {
	t.Helper()
	w := &words{p: p, c: c, start: start, limit: limit, ends: map[string]int{}}
	var code api.Errno
	if w.parts, code = part.Split(p, c); code != api.OK {
		t.Fatalf("Split with %+v = %v", c, code)
	}
	var arcs []api.Arc
	for _, l := range w.parts.Links {
		arcs = append(arcs, api.Arc{From: l.From, To: l.To})
	}
	if w.order, code = wto.Order(len(w.parts.Verts), arcs, 0); code != api.OK || len(w.order) != len(w.parts.Verts) {
		t.Fatalf("Order of %v = %v, %v", arcs, w.order, code)
	}
	for range w.parts.Verts {
		w.t = append(w.t, lost())
		w.n = append(w.n, 0)
	}
	return w
}

// x is the chapter's x(v) by a table.
func (w *words) x(t api.Table, v int) api.Env {
	y := lost()
	if v == 0 {
		y = w.start
	}
	for _, l := range w.parts.Links {
		if l.To != v {
			continue
		}
		e := t[l.From]
		if len(w.limit) != 0 {
			e = env.Meet(t[l.From], w.limit[l.From])
		}
		if env.Norm(e).Dead {
			continue
		}
		w.applications++
		after, _, code := move.Post(w.p, l.Edge, e)
		if code != api.OK {
			panic(code.Error())
		}
		y = env.Join(y, after)
	}
	if len(w.limit) != 0 {
		y = env.Meet(y, w.limit[v])
	}
	return y
}

// sweep is the chapter's step 2; it tells whether a vertex has changed.
func (w *words) sweep() bool {
	w.sweeps++
	before := append(api.Table(nil), w.t...)
	for _, element := range w.order {
		v := element.Vertex
		x := w.x(w.t, v)
		if env.Leq(x, w.t[v]) {
			continue
		}
		y := env.Join(w.t[v], x)
		if element.Head && w.n[v] >= w.c.Delay {
			w.t[v] = env.Widen(w.t[v], y, w.c.Thresholds)
			w.widened++
			if !env.Same(w.t[v], y) {
				w.leapt++
			}
		} else {
			w.t[v] = y
		}
		w.n[v]++
	}
	return !table.Same(before, w.t)
}

// narrow is the chapter's step 5, once; it tells whether there may be a next time.
func (w *words) narrow() bool {
	var u api.Table
	for v := range w.t {
		u = append(u, env.Meet(w.t[v], w.x(w.t, v)))
	}
	if table.Same(u, w.t) {
		w.ends["the same"]++
		return false
	}
	held := true
	for v := range u {
		already := w.applications
		here := env.Leq(w.x(u, v), u[v])
		if !held {
			w.skipped += w.applications - already
		}
		held = held && here
	}
	if !held {
		w.ends["not held"]++
		return false
	}
	w.t = u
	w.taken++
	return true
}

// pass is the whole, by the chapter's steps 1 to 6.
func (w *words) pass() *words {
	for w.sweep() {
	}
	for v := range w.t {
		if len(w.limit) != 0 {
			w.t[v] = env.Meet(w.t[v], w.limit[v])
		}
		if v > 0 && w.n[v] == 0 {
			w.quiet++
		}
	}
	for range w.c.Narrow {
		if !w.narrow() {
			return w
		}
	}
	w.ends["used up"]++
	return w
}

// wantWords holds an answer of Run against the chapter's words, with what follows of it, and tells what was seen.
func wantWords(t testing.TB, p api.Prog, c api.Config, start api.Env, limit api.Table) *words {
	t.Helper()
	w := newWords(t, p, c, start, limit).pass()
	got, number, code := Run(p, c, start, limit)
	if code != api.OK {
		t.Fatalf("P22.1: Run with %+v from %v within %v = %v", c, start, limit, code)
	}
	if len(got) != len(w.t) || tellTable(got) != tellTable(w.t) {
		t.Fatalf("P22.1: Run with %+v from %v within %v = %v, want %v", c, start, limit, got, w.t)
	}
	if number != w.applications {
		t.Fatalf("P22.1: Run with %+v from %v within %v has %d applications, want %d", c, start, limit, number, w.applications)
	}
	wantFollows(t, w, got)
	return w
}

// wantFollows holds what P22.3 says of an answer: it fits, is below the limit, and is held by itself.
func wantFollows(t testing.TB, w *words, got api.Table) {
	t.Helper()
	if !table.Fits(w.p, w.c, got) {
		t.Fatalf("P22.3: the answer %v doesn't fit", got)
	}
	if len(w.limit) != 0 && !table.Leq(got, w.limit) {
		t.Fatalf("P22.3: the answer %v isn't below the limit %v", got, w.limit)
	}
	for v := range got {
		if x := w.x(got, v); !env.Leq(x, got[v]) {
			t.Fatalf("P22.3: by the answer %v there comes %v to the vertex %d", got, x, v)
		}
	}
}

// texts are programs of each shape: without statements, straight, with ifs, with loops, with loops in loops and with arrays.
func texts() []string {
	return []string{
		"", "var x;", "skip;", "var x; x := 1; x := x + 2; skip;", short,
		"var x; var y; input x; if x > 0 { y := 1; } else { y := 0; } if y == 1 { assert x > 0; }",
		"var x; input x; if x < 0 { } else { } if x > 5 { } skip;",
		"var x; assert x > 0; x := 1; while x < 2 { x := 2; }",
		counting, "var x; while true { } x := 1;", "var x; while x == 0 { }", "var x; while x < 100 { x := x + 2; } assert x == 100;",
		"var i; while i >= 0 { i := i + 1; } assert i < 0;",
		"var x; var y; input y; while x < y { x := x + 1; if x == 7 { y := 0; } }",
		nested, "var x; var y; while x < 2 { while y < 2 { y := y + 1; } x := x + 1; }",
		"var x; while x < 9 { while x < 6 { while x < 3 { x := x + 1; } x := x + 1; } x := x + 1; }",
		"array a[4]; var i; while i < 4 { a[i] := i; i := i + 1; }",
		"array a[1]; array b[3]; var i; a[0] := 7; b[a[0] - 6] := 4; while i < 3 { b[i] := a[0] / (i + 1); i := i + 1; }",
		loop, everything,
	}
}

// limits are some tables that fit: all stores, none, none at one vertex, the answer of a pass without a limit, and some whose Envs aren't in their normal form.
func limits(t testing.TB, p api.Prog, c api.Config) []api.Table {
	number := len(mustSplit(t, p, c).Verts)
	all := filled(number, top(t, p))
	raws := copied(top(t, p))
	for i := range raws.Vars {
		raws.Vars[i] = raw(-10, 11, 3, 7)
	}
	for i := range raws.Arrays {
		raws.Arrays[i] = raw(-7, 9, 2, 8)
	}
	first := passed(t, p, c, zeros(t, p))
	return []api.Table{
		nil, {}, all, filled(number, lost()), except(all, number/2, lost()), except(all, number-1, lost()),
		first, passed(t, p, c, top(t, p)), except(first, number/2, top(t, p)), filled(number, raws), except(all, number/3, raws), except(all, 0, raws),
	}
}

// starts are the store of zeros, all stores, none, and Envs that aren't in their normal form.
func starts(t testing.TB, p api.Prog) []api.Env {
	raws, none := copied(top(t, p)), copied(top(t, p))
	for i := range raws.Vars {
		raws.Vars[i] = raw(-9, 9, 4, 11)
		none.Vars[i] = raw(3, 5, 4, 2)
	}
	return []api.Env{zeros(t, p), top(t, p), lost(), raws, none}
}

// P22.1, P22.3: programs of each shape, at the corners, from all starts and within all limits.
func TestPassesByWords(t *testing.T) {
	t.Parallel()
	several, merged := 0, 0
	seen := map[string]int{}
	for _, text := range texts() {
		p := mustText(t, text)
		for _, c := range append(corners(), plain()) {
			x := mustSplit(t, p, c)
			merged += min(len(x.Merged), 1)
			if last := x.Verts[len(x.Verts)-1]; len(x.Verts) > last.Node+1 {
				several++
			}
			for i, start := range starts(t, p) {
				for j, limit := range limits(t, p, c) {
					if i > 0 && j > 0 && (i+j)%4 > 0 {
						continue
					}
					wantWords(t, p, c, start, limit).tellSeen(seen)
				}
			}
		}
	}
	if several < 50 || merged < 30 || seen["the same"] < 500 || seen["used up"] < 500 || seen["taken"] < 200 || seen["leapt"] < 500 || seen["slow"] < 200 || seen["quiet"] < 500 {
		t.Errorf("the passes are too much alike: %d parts with several vertices a node, %d with merged ones, %v", several, merged, seen)
	}
}

// tellSeen counts what a pass has had.
func (w *words) tellSeen(seen map[string]int) {
	for why, number := range w.ends {
		seen[why] += number
	}
	for what, number := range map[string]int{"taken": w.taken, "leapt": w.leapt, "quiet": w.quiet, "slow": w.sweeps / 5, "thrice": w.taken / 3} {
		seen[what] += min(number, 1)
	}
}
