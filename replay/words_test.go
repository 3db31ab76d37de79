package replay

import (
	"math"
	"slices"
	"testing"

	"winnow/api"
	"winnow/cfg"
	"winnow/env"
	"winnow/eval"
	"winnow/interp"
	"winnow/num"
	"winnow/walk"
)

// played is a playing of the graph by the chapter's words, written down as they stand.
type played struct {
	tape   []int64
	end    string // why it ended
	path   []int  // the edges that were gone
	at     []int  // of each input the vertex behind it
	closed int    // inputs that led where the table is dead
}

// must is what a call answers that refuses nothing here.
func must[T any](v T, code api.Errno) T {
	if code != api.OK {
		panic(code.Error())
	}
	return v
}

// dead tells whether an Env is, by its normal form: it has no store, if one of its Nums has no number.
func dead(e api.Env) bool {
	none := func(a api.Num) bool { return nextUp(a, whole(least)) == nil }
	return e.Dead || slices.ContainsFunc(e.Vars, none) || slices.ContainsFunc(e.Arrays, none)
}

// reads is what an input reads that leads to a vertex.
func (w *played) reads(u api.Table, vertex, scalar, try int) int64 {
	n := num.Top()
	if dead(u[vertex]) {
		w.closed++
	} else {
		n = u[vertex].Vars[scalar]
	}
	v, _ := picked(n, try)
	w.tape, w.at = append(w.tape, v), append(w.at, vertex)
	return v
}

// byWords plays the graph from vertex 0 and zeros.
func byWords(t testing.TB, p api.Prog, c api.Config, u api.Table, try int) *played {
	t.Helper()
	graph, parts := must(cfg.Lower(p)), mustSplit(t, p, c)
	store, vertex := must(eval.Zero(p)), 0
	w := &played{}
	for len(w.path) < c.Fuel {
		edge := slices.IndexFunc(graph.Edges, func(e api.Edge) bool { return e.From == parts.Verts[vertex].Node })
		if edge < 0 {
			w.end = "end"
			return w
		}
		for e := graph.Edges[edge]; e.Op == api.EAssume; e = graph.Edges[edge] {
			holds, site, code := eval.Bool(p, store, e.Place)
			if must(site, code) >= 0 {
				w.end = "fault"
				return w
			}
			if holds == e.Sense {
				break
			}
			edge++
		}
		link := slices.IndexFunc(parts.Links, func(l api.Link) bool { return l.From == vertex && l.Edge == edge })
		vertex = parts.Links[link].To
		if e := graph.Edges[edge]; e.Op != api.EAssume {
			input := int64(77)
			if e.Op == api.EInput {
				input = w.reads(u, vertex, slices.Index(p.Scalars, p.Nodes[e.Place].Name), try)
			}
			after, site, code := eval.Do(p, store, e.Place, input)
			if must(site, code) >= 0 {
				w.end = "fault"
				return w
			}
			store = after
		}
		w.path = append(w.path, edge)
	}
	w.end = "fuel"
	return w
}

// wantWords holds each try's tape, and what Find tells of each site, against the chapter's words, and counts what was seen.
func wantWords(t testing.TB, p api.Prog, c api.Config, u api.Table, seen map[string]int) {
	t.Helper()
	outs := []api.Outcome{}
	tapes := [][]int64{}
	for try := range c.Tries {
		w := byWords(t, p, c, u, try)
		wantTape(t, p, c, u, try, w.tape...)
		wantWalk(t, p, c, w)
		out, _, code := interp.Run(p, w.tape, c.Fuel)
		if code != api.OK || out.Reads != len(w.tape) || (out.Kind == api.Faulted) != (w.end == "fault") {
			t.Fatalf("the run on %v with the fuel %d is %+v, %v; the playing ended by the %s", w.tape, c.Fuel, out, code, w.end)
		}
		outs, tapes = append(outs, out), append(tapes, w.tape)
		seen[w.end]++
		seen["closed"] += min(w.closed, 1)
		seen["read"] += min(len(w.tape), 1)
		seen["many"] += len(w.tape) / 3
	}
	for site := range p.Sites {
		first := slices.IndexFunc(outs, func(o api.Outcome) bool { return o.Kind == api.Faulted && o.Site == site })
		if first < 0 {
			wantNone(t, p, c, u, site)
			seen["none"]++
			continue
		}
		wantFound(t, p, c, u, site, outs[first].Steps, tapes[first]...)
		seen["found"]++
		seen["later"] += min(first, 1)
	}
}

// wantWalk holds a playing against the graph's own: on the tape it goes the same edges, and reads all of it.
func wantWalk(t testing.TB, p api.Prog, c api.Config, w *played) {
	t.Helper()
	out, _, code := walk.Run(p, w.tape, c.Fuel)
	path, code2 := walk.Path(p, w.tape, c.Fuel)
	if code != api.OK || code2 != api.OK || !slices.Equal(path, w.path) || out.Reads != len(w.tape) || out.Kind == api.Exhausted {
		t.Fatalf("the walk on %v with the fuel %d is %+v along %v, the playing went %v", w.tape, c.Fuel, out, path, w.path)
	}
}

// wantSeen holds that each thing was seen often enough.
func wantSeen(t testing.TB, seen, least map[string]int) {
	t.Helper()
	for what, number := range least {
		if seen[what] < number {
			t.Errorf("the playings are too much alike: %q was seen %d times, of all %v", what, seen[what], seen)
		}
	}
}

// texts are programs of each shape, straight, with ifs, with loops, with loops in loops and with arrays; with inputs ahead of, in and behind loops, and with none.
func texts() []string {
	return []string{
		"", "var x;", "skip;", "var x; input x;", nine, endless, "assert false;", "var x; x := 1 / x;", "var x; assert x > 0;",
		"var x; var y; input y; input x; y := y - x; assert x != y; input y; x := x / y;",
		"var x; input x; input x; input x; assert x < 3;",
		"var x; var y; input x; if x > 0 { input y; } else { input x; y := 7; } if y == 7 { assert x > 0; } input y; assert y < 2;",
		"var x; input x; if 6 / x > 1 && 8 % (x - 2) == 0 { assert x != 1; } else { } input x; x := x / (x - 3);",
		"var x; var y; input x; if x < 0 { } else { } input y; assert x + y != 3;",
		"var x; while x < 3 { x := x + 1; } assert x != 3;", "var x; while x < 3 { x := x + 1; } input x; assert x == 3;",
		"var x; var y; input y; while x < y { x := x + 1; } assert y != x;",
		"var x; var y; while y < 3 { input x; y := y + 1; assert x < 4; } input y;",
		"var x; while x >= 0 { input x; } x := 2 / (x + 1);", "var x; input x; while 6 / x > 1 || x == 9 / x { x := x - 1; input x; }",
		"var x; var y; while x < 9 { input y; if y < 0 { x := x + 3; } else { x := x + 2; input y; } assert y != 2; }",
		"var x; var y; while x < 2 { while y < 2 { y := y + 1; input x; } x := x + 1; }",
		"var x; while true { input x; while x < 2 { x := x + 1; } assert x != 4; }",
		"array a[4]; var i; var v; while i < 4 { input v; a[i] := v; i := i + 1; } assert a[i - 1] == v; input i; v := a[i];",
		"array a[1]; array b[3]; var i; input i; a[0] := i; b[i] := b[a[0]] / (i - 1); while i < 3 { input i; b[i] := a[0] / (i + 1); }",
		loop, nested, everything,
	}
}

// distinct is a table in which no two vertices, and no two scalars of a vertex, have the same Num.
func distinct(t testing.TB, p api.Prog, c api.Config) api.Table {
	u := tops(t, p, c)
	for v := range u {
		for i := range u[v].Vars {
			k := int64(10*v + i)
			u[v].Vars[i] = raw(-k-3, 2*k+5, 1+uint64(k%3), uint64(k))
		}
	}
	return u
}

// tables are some that fit: those of forward and of backward passes, all stores, none, none where inputs lead, some that no pass has made, and some whose Envs aren't in their normal form.
func tables(t testing.TB, p api.Prog, c api.Config) []api.Table {
	first, all := ahead(t, p, c), tops(t, p, c)
	number := len(all)
	raws, none, odd := copied(mustEnv(t, env.Top, p)), copied(mustEnv(t, env.Top, p)), lost()
	for i := range raws.Vars {
		raws.Vars[i] = raw(-10, 11, 3, 7)
		none.Vars[len(none.Vars)-1] = raw(3, 5, 4, 2)
	}
	for i := range raws.Arrays {
		raws.Arrays[i] = raw(-7, 9, 2, 8)
		none.Arrays[i] = api.Num{Bot: true}
	}
	odd.Vars = list(is(1), is(2), is(3), is(4))
	list := []api.Table{
		first, all, distinct(t, p, c), filled(number, lost()), except(all, number/2, lost()), except(first, number/2, lost()), behindInputs(t, p, c, lost()),
		filled(number, raws), filled(number, none), filled(number, odd), except(distinct(t, p, c), number/3, none), behindInputs(t, p, c, none), except(first, number-1, odd),
	}
	for site := range p.Sites {
		list = append(list, back(t, p, c, first, site), back(t, p, c, all, site))
	}
	return list
}

// behindInputs is a table with e at each vertex to which an input leads.
func behindInputs(t testing.TB, p api.Prog, c api.Config, e api.Env) api.Table {
	u, edges := distinct(t, p, c), must(cfg.Lower(p)).Edges
	for _, l := range mustSplit(t, p, c).Links {
		if edges[l.Edge].Op == api.EInput {
			u[l.To] = copied(e)
		}
	}
	return u
}

// corners are configurations with the fields that make a part, the fuel and the tries at their least and greatest numbers, and some between.
func corners() []api.Config {
	list := []api.Config{
		{Hist: 1, Unroll: 1, Cap: 2, Narrow: 2, Fuel: 40, Tries: 4},
		{Hist: 2, Unroll: 2, Cap: 3, Delay: 2, Thresholds: []int64{-3, 4}, Fuel: 2, Tries: 3},
		{Hist: 1, Unroll: 2, Cap: 4, Delay: 1, Narrow: 1, Fuel: 30, Tries: 2},
		{Cap: 1, Fuel: 20, Tries: 1}, {Cap: 1, Fuel: 20}, {Hist: 2, Cap: 6, Fuel: 5, Tries: 4},
	}
	for _, h := range []int{0, api.MaxHist} {
		for _, u := range []int{0, api.MaxUnroll} {
			for _, most := range []int{1, api.MaxCap} {
				list = append(list,
					api.Config{Hist: h, Unroll: u, Cap: most, Narrow: h, Delay: 2 * u, Fuel: u % 2, Tries: 4},
					api.Config{Hist: h, Unroll: u, Cap: most, Narrow: u, Delay: h, Fuel: 60, Tries: 4, Thresholds: []int64{math.MinInt64, -1, 0, 5, 6, math.MaxInt64}})
			}
		}
	}
	return list
}

// P24.2, P24.3, P24.4: programs of each shape, at the corners, by all tables.
func TestPlayingsByWords(t *testing.T) {
	t.Parallel()
	several, merged := 0, 0
	seen := map[string]int{}
	for _, text := range texts() {
		p := mustText(t, text)
		for _, c := range append(corners(), plain()) {
			x := mustSplit(t, p, c)
			merged += min(len(x.Merged), 1)
			if nodes := must(cfg.Lower(p)).Nodes; len(x.Verts) > nodes {
				several++
			}
			for _, u := range tables(t, p, c) {
				wantWords(t, p, c, u, seen)
			}
		}
	}
	wantSeen(t, seen, map[string]int{"fuel": 3000, "end": 3000, "fault": 3000, "closed": 2000, "read": 8000, "many": 5000, "none": 5000, "found": 1500, "later": 300})
	if several < 50 || merged < 30 {
		t.Errorf("the parts are too much alike: %d with several vertices a node, %d with merged ones", several, merged)
	}
}

// P24.2: each fuel up to one that is enough, so that the playing ends behind each step.
func TestEachFuel(t *testing.T) {
	t.Parallel()
	seen := map[string]int{}
	for _, text := range []string{"", nine, endless, loop, nested, everything} {
		p := mustText(t, text)
		for fuel := range 50 {
			c := api.Config{Hist: 1, Unroll: 2, Cap: 5, Fuel: fuel, Tries: 4}
			wantWords(t, p, c, distinct(t, p, c), seen)
			wantWords(t, p, c, ahead(t, p, c), seen)
		}
	}
	wantSeen(t, seen, map[string]int{"fuel": 500, "end": 200, "fault": 100})
}

// P24.2: the greatest fuel.
func TestGreatestFuel(t *testing.T) {
	t.Parallel()
	p := mustText(t, endless)
	c := api.Config{Cap: 1, Fuel: api.MaxFuel, Tries: 4}
	for try := range api.MaxTries {
		want := make([]int64, api.MaxFuel/2)
		for i := range want {
			want[i] = []int64{3, 3, 8, 5}[try]
		}
		wantTape(t, p, c, filled(3, vars(in(3, 8))), try, want...)
	}
	// The fault is in the very last step that the fuel allows: the rounds have three steps.
	p = mustText(t, "var x; var y; while x < 1665 { x := x + 1; input y; } y := 1; y := 2; y := 3; assert x == 0;")
	u := tops(t, p, c)
	wantFound(t, p, c, u, 0, api.MaxFuel, make([]int64, 1665)...)
	c.Fuel--
	wantNone(t, p, c, u, 0)
}
