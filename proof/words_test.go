package proof

import (
	"math"
	"slices"
	"strconv"
	"sync"
	"testing"

	"winnow/api"
	"winnow/bwd"
	"winnow/env"
	"winnow/fwd"
	"winnow/move"
	"winnow/refine"
)

// demand is an Env that a table must hold at a vertex, by one of the sentences of the chapter's words.
type demand struct {
	why    string
	vertex int
	e      api.Env
}

// words are the chapter's, of one site.
type words struct {
	t     testing.TB
	p     api.Prog
	c     api.Config
	site  int
	links []api.Link
	z     api.Env
}

func newWords(t testing.TB, p api.Prog, c api.Config, site int) *words {
	t.Helper()
	return &words{t, p, c, site, mustSplit(t, p, c).Links, zeros(t, p)}
}

func (w *words) ok(code api.Errno, what string) {
	w.t.Helper()
	if code != api.OK {
		w.t.Fatalf("%s is refused: %v", what, code)
	}
}

func (w *words) post(edge int, e api.Env) api.Env {
	w.t.Helper()
	f, _, code := move.Post(w.p, edge, e)
	w.ok(code, "Post")
	return f
}

// ofFirst: T0 holds: Z ⊑ T0[0], and for each link: Post(its edge, T0[From]) ⊑ T0[To].
func (w *words) ofFirst(t0 api.Table) []demand {
	w.t.Helper()
	list := []demand{{"start", 0, w.z}}
	for _, l := range w.links {
		list = append(list, demand{"link", l.To, w.post(l.Edge, t0[l.From])})
	}
	return list
}

// ofBackward: B holds within T, for each link: if the edge holds s: Seed(its edge, T[From], s) ⊓ T[From] ⊑ B[From]; and Pre(its edge, T[From], B[To] ⊓ T[To]) ⊓ T[From] ⊑ B[From].
func (w *words) ofBackward(u, b api.Table) []demand {
	w.t.Helper()
	var list []demand
	for _, l := range w.links {
		if slices.Contains(move.Holds(w.p, l.Edge), w.site) {
			seed, code := move.Seed(w.p, l.Edge, u[l.From], w.site)
			w.ok(code, "Seed")
			list = append(list, demand{"seed", l.From, env.Meet(seed, u[l.From])})
		}
		pre, code := move.Pre(w.p, l.Edge, u[l.From], env.Meet(b[l.To], u[l.To]))
		w.ok(code, "Pre")
		list = append(list, demand{"pre", l.From, env.Meet(pre, u[l.From])})
	}
	return list
}

// ofForward: T holds within B: B[0] ⊓ Z ⊑ T[0], and for each link: Post(its edge, T[From] ⊓ B[From]) ⊓ B[To] ⊑ T[To].
func (w *words) ofForward(b, u api.Table) []demand {
	w.t.Helper()
	list := []demand{{"start within", 0, env.Meet(b[0], w.z)}}
	for _, l := range w.links {
		list = append(list, demand{"link within", l.To, env.Meet(w.post(l.Edge, env.Meet(u[l.From], b[l.From])), b[l.To])})
	}
	return list
}

// demands are all that are made of the table at a place.
func (w *words) demands(tables []api.Table, place int) []demand {
	w.t.Helper()
	switch {
	case place == 0:
		return w.ofFirst(tables[0])
	case place%2 == 1:
		return w.ofBackward(tables[place-1], tables[place])
	}
	return w.ofForward(tables[place-1], tables[place])
}

// broken is the first sentence that tables which fit break, or ""; then they are a chain, if they are as many as may be.
func (w *words) broken(tables []api.Table) string {
	w.t.Helper()
	for place, u := range tables {
		for _, d := range w.demands(tables, place) {
			if !env.Leq(d.e, u[d.vertex]) {
				return d.why
			}
		}
	}
	return ""
}

// end is what the last table of a chain tells of the site.
func (w *words) end(tables []api.Table) string {
	w.t.Helper()
	last := tables[len(tables)-1]
	if len(tables)%2 == 0 {
		if env.Meet(last[0], w.z).Dead {
			return "shown backwards"
		}
		return "zeros are left"
	}
	for _, l := range w.links {
		_, sites, code := move.Post(w.p, l.Edge, last[l.From])
		w.ok(code, "Post")
		if slices.Contains(sites, w.site) {
			return "alarm"
		}
	}
	return "shown forwards"
}

// tell is what the chapter's words say of tables that fit, and whether they are a chain that shows the site.
func (w *words) tell(tables []api.Table) (string, bool) {
	w.t.Helper()
	if len(tables) == 0 {
		return "none", false
	}
	if len(tables) > 2*3+1 {
		return "too many", false
	}
	why := w.broken(tables)
	if why == "" {
		why = w.end(tables)
	}
	return why, why == "shown forwards" || why == "shown backwards"
}

// want holds an answer of Check against the chapter's words, and counts what was seen.
func (w *words) want(seen map[string]int, tables ...api.Table) bool {
	w.t.Helper()
	why, want := w.tell(tables)
	if got := Check(w.p, w.c, w.site, tables); got != want {
		w.t.Fatalf("P26.1: Check of the site %d with %+v and the tables %v = %v, want %v: %s", w.site, w.c, tables, got, want, why)
	}
	seen[why]++
	return want
}

// closed makes tables greater until each holds.
func (w *words) closed(tables []api.Table) []api.Table {
	w.t.Helper()
	list := slices.Clone(tables)
	for place := range list {
		list[place] = slices.Clone(list[place])
		for turn, grew := 0, true; grew; turn++ {
			grew = false
			for _, d := range w.demands(list, place) {
				e := list[place][d.vertex]
				if env.Leq(d.e, e) {
					continue
				}
				grew = true
				list[place][d.vertex] = env.Join(e, d.e)
				if turn > 2 {
					list[place][d.vertex] = env.Widen(e, env.Join(e, d.e), nil)
				}
			}
		}
	}
	return list
}

// rounds are T0 and the tables of the site's rounds, whatever its verdict.
func (w *words) rounds() []api.Table {
	w.t.Helper()
	first := firstOf(w.t, w.p, w.c)
	_, tables, _, code := refine.Site(w.p, w.c, first, w.site)
	w.ok(code, "refine.Site")
	return append([]api.Table{first}, tables...)
}

// wantSeen holds that each thing was seen often enough.
func wantSeen(t testing.TB, seen, least map[string]int) {
	t.Helper()
	for what, number := range least {
		if seen[what] < number {
			t.Errorf("the chains are too much alike: %q was seen %d times, of all %v", what, seen[what], seen)
		}
	}
}

// texts are programs of each shape, straight, with ifs, with loops, with loops in loops and with arrays; with sites ahead of, in and behind loops, several in one statement and in one condition.
func texts() []string {
	return []string{
		"assert false;", "assert true;", short, halves, twins, branches, "var x; x := 1 / x;", "assert 1 / 0 == 0 || true;",
		"var x; input x; assert x != 7 || false;", "var x; x := 1; x := 2 / x;", "var x; input x; assert x < 100;", "var x; input x; x := x * x; assert x % 4 != 2;",
		"var x; var y; input x; input y; if x == 12 { assert y != 34; } assert x + y != 5;",
		"var x; var y; var z; input x; y := x; z := y; if x == 3 { if z == 3 { skip; } else { assert y == x; } }",
		"var x; var y; x := 1; y := 7 / x + 5 % y; x := x / y;", copies + "assert w == 4; } }", rests, chain + "assert t == 5; } } }",
		"var x; input x; if 6 / x > 1 && 8 % (x - 2) == 0 { assert x != 1; } else { } x := x / (x - 3);",
		"var x; assert x > 0; x := 1; while x < 2 { x := 2; }",
		"var x; while x < 3 { x := x + 1; } assert x == 3;", "var x; input x; assert x < 9; while x < 100 { x := x + 2; assert x != 51; } assert x == 100;",
		"var x; var y; input y; while x < 5 { x := x + 1; } assert y != 7;", "var x; while true { } assert x == 0;",
		"var x; input x; while 6 / x > 1 || x == 9 / x { x := x - 1; input x; }",
		"var i; while i >= 0 { i := i + 1; } assert i < 0;",
		"var x; var y; input y; while x < y { x := x + 1; if x == 7 { y := y / (x - 6); } } assert y != x;",
		"var x; var y; while x < 3 { input y; x := x + 1; } if y == 77 { assert x < 3; }",
		"var x; while x < 3 { x := x + 1; assert x != 0; }",
		"var x; var y; while x < 5 { y := 0; while y < x { y := y + 2; } x := x + 1; } assert x == 5; assert y != 4;",
		"var x; var y; while x < 2 { while y < 2 { y := y + 1; input x; assert x + y < 3; } x := x + 1; }",
		"var x; input x; while x < 9 { while x < 6 { while x < 3 { x := x + 1; } x := x + 1 / x; } x := x + 1; } assert x != 12;",
		"array a[4]; var i; while i < 4 { a[i] := i; i := i + 1; } assert a[i - 1] == 3;",
		"array a[1]; array b[3]; var i; input i; a[0] := i; b[a[0] - 6] := b[i] / a[0]; while i < 3 { b[i] := a[0] / (i + 1); i := i + 1; }",
		"array a[2]; var x; input x; a[x] := 5; if a[1] == 5 { assert x != 1; }",
		loop, calm, everything,
	}
}

// corners are configurations with the fields at their least and greatest numbers, and some between.
func corners() []api.Config {
	list := []api.Config{
		plain(), rounded(1, 0, 0), rounded(2, 1, 1), rounded(3, 4, 60), rounded(1, 2, 9),
		{Hist: 1, Unroll: 1, Cap: 2, Narrow: 2, Rounds: 2, Fuel: 40, Tries: 1},
		{Hist: 2, Unroll: 2, Cap: 3, Delay: 2, Rounds: 1, Thresholds: []int64{-3, 4}},
		{Hist: 1, Unroll: 2, Cap: 4, Delay: 1, Narrow: 1, Rounds: 3, Fuel: 1},
	}
	for _, h := range []int{0, api.MaxHist} {
		for _, u := range []int{0, api.MaxUnroll} {
			for _, most := range []int{1, api.MaxCap} {
				list = append(list,
					api.Config{Hist: h, Unroll: u, Cap: most, Narrow: u, Delay: h, Rounds: 3, Fuel: 60, Tries: 1, Thresholds: []int64{math.MinInt64, -1, 0, 5, 6, math.MaxInt64}})
			}
		}
	}
	return list
}

// raws are tables whose Envs aren't in their normal form: of some stores, of none, and dead ones with lists.
func (w *words) raws(number int) []api.Table {
	some, none, dead := copied(top(w.t, w.p)), copied(top(w.t, w.p)), lost()
	for i := range some.Vars {
		some.Vars[i], none.Vars[i] = raw(-10, 11, 3, 7), raw(3, 5, 4, 2)
	}
	for i := range some.Arrays {
		some.Arrays[i], none.Arrays[i] = raw(-7, 9, 2, 8), api.Num{Bot: true}
	}
	dead.Vars = list(is(1), is(2), is(3), is(4))
	return []api.Table{filled(number, some), filled(number, none), filled(number, dead)}
}

// lists are tables of many kinds: those of the analysis, more and less of them, in other orders, all stores, none, what passes within these tell, and some whose Envs aren't in their normal form.
func (w *words) lists() [][]api.Table {
	w.t.Helper()
	made := w.rounds()
	first, all := made[0], tops(w.t, w.p, w.c)
	number := len(all)
	none, raws := filled(number, lost()), w.raws(number)
	back, _, _ := bwd.Run(w.p, w.c, all, w.site)
	within, _, _ := fwd.Run(w.p, w.c, zeros(w.t, w.p), back)
	again, _, _ := bwd.Run(w.p, w.c, first, w.site)
	last, less := made[len(made)-1], except(first, number/2, lost())
	lists := [][]api.Table{
		nil, {}, {all}, {none}, {back}, {last}, {first, all}, {first, none}, {first, first}, {first, back}, {first, last}, {all, back}, {all, back, within}, {first, back, within},
		{all, again}, {first, again, none}, {first, again, last}, {first, again, first}, {first, all, first}, {all, first, first}, {first, last, first}, {all, none, all},
		{first, all, less}, {first, all, except(first, number-1, lost())}, {all, all, first}, {all, all, less}, {first, again, less},
		{first, again, last, again}, {first, again, last, again, last}, {first, all, first, all, first, again, last}, {first, all, first, all, first, all, first, again, last},
		{raws[0]}, {raws[1]}, {raws[2]}, {all, raws[1]}, {all, raws[2], raws[1]}, {all, all, raws[0]}, {first, raws[0], first}, {all, except(all, 0, raws[1][0])},
		{except(all, number-1, raws[2][0])}, {except(all, number/2, lost())}, {except(first, number/2, top(w.t, w.p))}, {except(first, number/2, raws[0][0])},
		w.closed([]api.Table{none, none, none}), w.closed([]api.Table{raws[0], raws[1], raws[2], none}), w.closed([]api.Table{first, raws[0]}), w.closed([]api.Table{except(first, number/2, raws[0][0]), none, none, none, none}),
	}
	for i := range made {
		lists = append(lists, made[:i+1], append(slices.Clone(made[:i+1]), last), append(slices.Clone(made[:i+1]), all), append(slices.Clone(made[:i]), none))
	}
	for i := 1; i < 10; i++ {
		lists = append(lists, times(i, all), times(i, first))
	}
	return lists
}

// tally counts what was seen of chains, and of parts.
type tally struct {
	sync.Mutex
	seen            map[string]int
	several, merged int
}

func (y *tally) add(seen map[string]int) {
	y.Lock()
	defer y.Unlock()
	for what, number := range seen {
		y.seen[what] += number
	}
}

// look counts a part that has several vertices a node, or merged nodes.
func (y *tally) look(x api.Part) {
	y.Lock()
	defer y.Unlock()
	y.merged += min(len(x.Merged), 1)
	if last := x.Verts[len(x.Verts)-1]; len(x.Verts) > last.Node+1 {
		y.several++
	}
}

// eachText runs a test of each text, all of them at the same time, and tells what they have seen.
func eachText(t *testing.T, texts []string, test func(t *testing.T, p api.Prog, y *tally)) *tally {
	y := &tally{seen: map[string]int{}}
	t.Run("texts", func(t *testing.T) {
		for i, text := range texts {
			t.Run(strconv.Itoa(i), func(t *testing.T) {
				t.Parallel()
				test(t, mustText(t, text), y)
			})
		}
	})
	return y
}

// P26.1: programs of each shape, at the corners, with tables of all kinds, of each site.
func TestChainsByWords(t *testing.T) {
	y := eachText(t, texts(), func(t *testing.T, p api.Prog, y *tally) {
		seen := map[string]int{}
		for j, c := range corners() {
			x := mustSplit(t, p, c)
			y.look(x)
			for site := range p.Sites {
				w := newWords(t, p, c, site)
				for k, tables := range w.lists() {
					if len(x.Verts) < 6 || (j+k+site)%7 == 0 {
						w.want(seen, tables...)
					}
				}
			}
		}
		y.add(seen)
	})
	wantSeen(t, y.seen, map[string]int{
		"none": 500, "too many": 1200, "start": 1200, "link": 1000, "seed": 1000, "pre": 700, "start within": 500, "link within": 600,
		"alarm": 4000, "zeros are left": 4000, "shown forwards": 2500, "shown backwards": 600,
	})
	if y.several < 100 || y.merged < 30 {
		t.Errorf("the parts are too much alike: %d with several vertices a node, %d with merged ones", y.several, y.merged)
	}
}
