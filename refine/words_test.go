package refine

import (
	"math"
	"slices"
	"testing"

	"winnow/api"
	"winnow/bwd"
	"winnow/config"
	"winnow/env"
	"winnow/fwd"
	"winnow/interp"
	"winnow/replay"
	"winnow/table"
)

// words is a site's rounds by DOC.md's point 13, written down as it stands.
type words struct {
	verdict      api.Verdict
	tables       []api.Table // B of round 1, T(1), B of round 2, ..
	applications int
	why          string // which of the point's sentences has told the verdict
}

// alarmed tells whether a site is an alarm of a table.
func alarmed(t testing.TB, p api.Prog, c api.Config, u api.Table, site int) bool {
	t.Helper()
	alarms, code := fwd.Alarms(p, c, u)
	if code != api.OK {
		t.Fatalf("Alarms with %+v of %v = %v", c, u, code)
	}
	return slices.Contains(alarms, site)
}

// faulting is the first of a table's tries that faults at a site, by point 14: its tape, the steps, and its number; -1: none does.
func faulting(t testing.TB, p api.Prog, c api.Config, u api.Table, site int) ([]int64, int, int) {
	t.Helper()
	for try := range c.Tries {
		tape, code := replay.Tape(p, c, u, try)
		out, _, code2 := interp.Run(p, tape, c.Fuel)
		if code != api.OK || code2 != api.OK {
			t.Fatalf("the try %d with %+v by %v: %v, %v", try, c, u, code, code2)
		}
		if out.Kind == api.Faulted && out.Site == site {
			return tape, out.Steps, try
		}
	}
	return nil, 0, -1
}

// byWords makes the rounds of a site from a table.
func byWords(t testing.TB, p api.Prog, c api.Config, first api.Table, site int) *words {
	t.Helper()
	w := &words{}
	z := zeros(t, p)
	forwards := []api.Table{first}
	for k := 0; ; k++ {
		if k > 0 {
			b, number, code := bwd.Run(p, c, forwards[k-1], site)
			if code != api.OK {
				t.Fatalf("bwd.Run with %+v within %v from %d = %v", c, forwards[k-1], site, code)
			}
			w.tables, w.applications = append(w.tables, b), w.applications+number
			if env.Meet(b[0], z).Dead {
				w.verdict, w.why = safe(k), "no way there"
				return w
			}
			u, number, code := fwd.Run(p, c, env.Meet(b[0], z), b)
			if code != api.OK {
				t.Fatalf("fwd.Run with %+v within %v = %v", c, b, code)
			}
			w.tables, w.applications, forwards = append(w.tables, u), w.applications+number, append(forwards, u)
		}
		if !alarmed(t, p, c, forwards[k], site) {
			w.verdict, w.why = safe(k), "no alarm"
			return w
		}
		if tape, steps, try := faulting(t, p, c, forwards[k], site); try >= 0 {
			w.verdict, w.why = definite(k, steps, tape...), "a try"
			if try > 0 {
				w.why = "a later try"
			}
			return w
		}
		if k > 0 && table.Same(forwards[k], forwards[k-1]) {
			w.verdict, w.why = unknown(k), "the same"
			return w
		}
		if k == c.Rounds {
			w.verdict, w.why = unknown(k), "no round left"
			return w
		}
	}
}

// told is why a verdict was told, and in the round 0, in the first one, or in a later one.
func (w *words) told() string {
	return w.why + []string{" at once", "", " late", " late"}[w.verdict.Round]
}

// wantWords holds an answer of Site against point 13, with what is said of a verdict, and counts what was seen.
func wantWords(t testing.TB, p api.Prog, c api.Config, first api.Table, site int, seen map[string]int) *words {
	t.Helper()
	w := byWords(t, p, c, first, site)
	wantSite(t, p, c, first, site, w.verdict, w.applications, w.tables...)
	wantSaid(t, p, c, w)
	above := first
	for i, u := range w.tables {
		if !table.Fits(p, c, u) || !table.Leq(u, above) {
			t.Errorf("P25.3: the table %d of the rounds isn't below the one ahead of it: %v, %v", i, u, above)
		}
		above = u
	}
	if t.Failed() {
		t.FailNow()
	}
	seen[w.told()]++
	return w
}

// wantSaid holds what the chapter says of how a verdict, its round and the tables go together.
func wantSaid(t testing.TB, p api.Prog, c api.Config, w *words) {
	t.Helper()
	v, number := w.verdict, len(w.tables)
	if v.Round < 0 || v.Round > c.Rounds || number > 2*v.Round || number < 2*v.Round-1 {
		t.Errorf("P25.1: %+v by %d tables with %d rounds", v, number, c.Rounds)
	}
	if v.Round == 0 && w.applications != 0 {
		t.Errorf("P25.1: %+v by %d applications", v, w.applications)
	}
	if number < 2*v.Round && (v.Kind != api.Safe || !env.Meet(w.tables[number-1][0], zeros(t, p)).Dead) {
		t.Errorf("P25.1: %+v by a backward table that the zeros are in", v)
	}
	if v.Kind != api.Definite && (len(v.Tape) > 0 || v.Steps != 0) {
		t.Errorf("P25.1: %+v has a tape", v)
	}
	if v.Kind == api.Definite && (v.Steps < 1 || v.Steps > c.Fuel || c.Tries == 0) {
		t.Errorf("P25.1: %+v with %+v", v, c)
	}
}

// wantWhole holds an answer of All against point 13, and the bound.
func wantWhole(t testing.TB, p api.Prog, c api.Config) api.Result {
	t.Helper()
	first, posts := ahead(t, p, c)
	want := api.Result{Posts: posts}
	for site := range p.Sites {
		w := byWords(t, p, c, first, site)
		want.Verdicts = append(want.Verdicts, w.verdict)
		want.Posts += w.applications
	}
	r, code := All(p, c)
	if code != api.OK || tellResult(r) != tellResult(want) {
		t.Fatalf("P25.2: All with %+v = %+v, %v, want %+v", c, r, code, want)
	}
	if most, code := config.Bound(p, c); code != api.OK || r.Posts < 0 || uint64(r.Posts) > most {
		t.Fatalf("P25.3: %d applications with %+v, at most %d, %v", r.Posts, c, most, code)
	}
	return r
}

// wantSeen holds that each thing was seen often enough.
func wantSeen(t testing.TB, seen, least map[string]int) {
	t.Helper()
	for what, number := range least {
		if seen[what] < number {
			t.Errorf("the analyses are too much alike: %q was seen %d times, of all %v", what, seen[what], seen)
		}
	}
}

// texts are programs of each shape, straight, with ifs, with loops, with loops in loops and with arrays; with sites ahead of, in and behind loops, several in one statement and in one condition.
func texts() []string {
	return []string{
		"assert false;", "assert true;", short, twins, seven, branches, "var x; x := 1 / x;", "assert 1 / 0 == 0 || true;",
		"var x; x := 1; x := 2 / x;", "var x; input x; assert x < 100;", "var x; input x; x := x * x; assert x % 4 != 2;",
		"var x; var y; input x; input y; if x == 12 { assert y != 34; } assert x + y != 5;",
		"var x; var y; var z; input x; y := x; z := y; if x == 3 { if z == 3 { skip; } else { assert y == x; } }",
		"var x; var y; x := 1; y := 7 / x + 5 % y; x := x / y;",
		"var x; input x; if 6 / x > 1 && 8 % (x - 2) == 0 { assert x != 1; } else { } x := x / (x - 3);",
		"var x; assert x > 0; x := 1; while x < 2 { x := 2; }",
		"var x; while x < 3 { x := x + 1; } assert x == 3;", "var x; input x; assert x < 9; while x < 100 { x := x + 2; assert x != 51; } assert x == 100;",
		"var x; var y; input y; while x < 5 { x := x + 1; } assert y != 7;", "var x; while true { } assert x == 0;",
		"var x; input x; while 6 / x > 1 || x == 9 / x { x := x - 1; input x; }",
		"var i; while i >= 0 { i := i + 1; } assert i < 0;",
		"var x; var y; input y; while x < y { x := x + 1; if x == 7 { y := y / (x - 6); } } assert y != x;",
		"var x; var y; while x < 3 { input y; x := x + 1; } if y == 77 { assert x < 3; }",
		"var x; while x < 3 { x := x + 1; assert x != 0; }",
		"var x; var y; while x < 5 { y := 0; while y < x { y := y + 2; } x := x + 1; } assert x == 5; assert y != 4;",
		"var x; var y; while x < 2 { while y < 2 { y := y + 1; input x; assert x + y < 3; } x := x + 1; }",
		"var x; input x; while x < 9 { while x < 6 { while x < 3 { x := x + 1; } x := x + 1 / x; } x := x + 1; } assert x != 12;",
		"array a[4]; var i; while i < 4 { a[i] := i; i := i + 1; } assert a[i - 1] == 3;",
		"array a[1]; array b[3]; var i; input i; a[0] := i; b[a[0] - 6] := b[i] / a[0]; while i < 3 { b[i] := a[0] / (i + 1); i := i + 1; }",
		"array a[2]; var x; input x; a[x] := 5; if a[1] == 5 { assert x != 1; }",
		loop, everything,
	}
}

// corners are configurations with the fields at their least and greatest numbers, and some between.
func corners() []api.Config {
	list := []api.Config{
		plain(), rounded(1, 0, 0), rounded(2, 1, 1), rounded(3, 4, 60), rounded(1, 2, 9),
		{Hist: 1, Unroll: 1, Cap: 2, Narrow: 2, Rounds: 2, Fuel: 40, Tries: 1},
		{Hist: 2, Unroll: 2, Cap: 3, Delay: 2, Rounds: 1, Thresholds: []int64{-3, 4}},
		{Hist: 1, Unroll: 2, Cap: 4, Delay: 1, Narrow: 1, Rounds: 3, Fuel: 1, Tries: 4},
	}
	for _, h := range []int{0, api.MaxHist} {
		for _, u := range []int{0, api.MaxUnroll} {
			for _, most := range []int{1, api.MaxCap} {
				list = append(list,
					api.Config{Hist: h, Unroll: u, Cap: most, Narrow: h, Delay: 2 * u, Rounds: 1 + u/2, Fuel: u % 2, Tries: 1},
					api.Config{Hist: h, Unroll: u, Cap: most, Narrow: u, Delay: h, Rounds: 3, Fuel: 60, Tries: 4, Thresholds: []int64{math.MinInt64, -1, 0, 5, 6, math.MaxInt64}})
			}
		}
	}
	return list
}

// firsts are some tables that fit: that of the analysis, and others that no analysis begins with: all stores, none, none at one vertex, what a backward pass told, and some whose Envs aren't in their normal form.
func firsts(t testing.TB, p api.Prog, c api.Config) []api.Table {
	first, all := firstOf(t, p, c), tops(t, p, c)
	number := len(all)
	raws, none, odd := copied(top(t, p)), copied(top(t, p)), lost()
	for i := range raws.Vars {
		raws.Vars[i] = raw(-10, 11, 3, 7)
		none.Vars[i] = raw(3, 5, 4, 2)
	}
	for i := range raws.Arrays {
		raws.Arrays[i] = raw(-7, 9, 2, 8)
		none.Arrays[i] = api.Num{Bot: true}
	}
	odd.Vars = list(is(1), is(2), is(3), is(4))
	back, _, _ := bwd.Run(p, c, all, 0)
	return []api.Table{
		first, all, filled(number, lost()), except(all, number/2, lost()), except(all, 0, lost()), except(first, number/2, lost()),
		except(first, number/2, top(t, p)), except(all, number/2, first[number/2]), back, except(all, 0, zeros(t, p)),
		filled(number, raws), except(all, number/3, raws), except(all, number/2, none), filled(number, odd), except(first, number-1, odd), except(filled(number, raws), 0, zeros(t, p)),
	}
}

// P25.1, P25.2: programs of each shape, at the corners, by all first tables, of each site.
func TestSitesByWords(t *testing.T) {
	t.Parallel()
	several, merged := 0, 0
	seen := map[string]int{}
	for _, text := range texts() {
		p := mustText(t, text)
		for i, c := range corners() {
			x := mustSplit(t, p, c)
			merged += min(len(x.Merged), 1)
			if last := x.Verts[len(x.Verts)-1]; len(x.Verts) > last.Node+1 {
				several++
			}
			for j, first := range firsts(t, p, c) {
				for site := range p.Sites {
					if j == 0 || (i+j+site)%4 == 0 {
						wantWords(t, p, c, first, site, seen)
					}
				}
			}
			wantWhole(t, p, c)
		}
	}
	wantSeen(t, seen, map[string]int{
		"no alarm at once": 1000, "a try at once": 300, "a later try at once": 80, "no round left at once": 100,
		"no way there": 500, "no alarm": 150, "a try": 150, "the same": 30, "no round left": 300,
		"no way there late": 5, "no alarm late": 3, "a try late": 3, "the same late": 300, "no round left late": 20,
	})
	if several < 100 || merged < 50 {
		t.Errorf("the parts are too much alike: %d with several vertices a node, %d with merged ones", several, merged)
	}
}
