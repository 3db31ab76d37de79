package tpfb

import (
	"math"
	"slices"
	"strings"
	"testing"

	"winnow/api"
	"winnow/config"
	"winnow/env"
	"winnow/fwd"
	"winnow/interp"
	"winnow/part"
	"winnow/refine"
	"winnow/table"
	"winnow/walk"
)

// mustRun is how a run ends.
func mustRun(t testing.TB, p api.Prog, tape []int64, fuel int) api.Outcome {
	t.Helper()
	out, _, code := interp.Run(p, tape, fuel)
	if code != api.OK {
		t.Fatalf("Run on %v with %d = %v", tape, fuel, code)
	}
	return out
}

// wantTapeFaults holds that on a Definite's tape the program faults at the site in just the step that is told, with each fuel from there on, and not with less; and that a longer tape changes nothing.
func wantTapeFaults(t testing.TB, p api.Prog, c api.Config, site int, v api.Verdict) {
	t.Helper()
	if v.Steps < 1 || v.Steps > c.Fuel {
		t.Fatalf("P0.4: the site %d is %+v with %+v", site, v, c)
	}
	for _, behind := range [][]int64{nil, {0}, {5, -7, math.MaxInt64}} {
		tape := append(slices.Clone(v.Tape), behind...)
		for _, fuel := range []int{v.Steps, c.Fuel, api.MaxFuel} {
			if out := mustRun(t, p, tape, fuel); out != (api.Outcome{Kind: api.Faulted, Site: site, Steps: v.Steps, Reads: len(v.Tape)}) {
				t.Fatalf("P0.4: the site %d is %+v; the run on %v with the fuel %d is %+v", site, v, tape, fuel, out)
			}
		}
		if out := mustRun(t, p, tape, v.Steps-1); out != (api.Outcome{Kind: api.OutOfFuel, Site: -1, Steps: v.Steps - 1, Reads: len(v.Tape)}) {
			t.Fatalf("P0.4: the site %d is %+v; the run on %v with the fuel %d is %+v", site, v, tape, v.Steps-1, out)
		}
	}
}

// wantSafe holds that a run doesn't fault at a site that is Safe; it tells whether it faults.
func wantSafe(t testing.TB, p api.Prog, c api.Config, r api.Result, tape []int64, fuel int) bool {
	t.Helper()
	out := mustRun(t, p, tape, fuel)
	if out.Kind != api.Faulted {
		return false
	}
	if v := r.Verdicts[out.Site]; v.Kind == api.Safe {
		t.Fatalf("P0.3: the site %d is %+v with %+v; on %v it faults in step %d", out.Site, v, c, tape, out.Steps)
	}
	return true
}

// wantWithinBound holds that an analysis has no more applications than there may be.
func wantWithinBound(t testing.TB, p api.Prog, c api.Config, r api.Result) {
	t.Helper()
	if most, code := config.Bound(p, c); code != api.OK || r.Posts < 0 || uint64(r.Posts) > most {
		t.Fatalf("P0.7: %d applications with %+v, at most %d, %v", r.Posts, c, most, code)
	}
}

// tapes are some on which the texts' sites fault, and others.
func tapes() [][]int64 {
	list := [][]int64{nil, {5, -2, 7, 1, 0, 0, 3}, {1, 6}, {4, 6}, {12, 34}, {1, 4}, {1, 4, 5}, {0, 0, 77}}
	for _, a := range []int64{math.MinInt64, -1, 0, 1, 2, 3, 6, 7, 11, 49, 99, 100, math.MaxInt64} {
		list = append(list, []int64{a}, []int64{a, 2, a, 4, a, a})
	}
	return list
}

// wantTrue holds all that is promised of an analysis, on some tapes and on those that it tells; it counts what was seen.
func wantTrue(t testing.TB, text string, c api.Config, tapes [][]int64, seen map[string]int) {
	t.Helper()
	p, r := mustText(t, text), analyzed(t, text, c)
	wantWithinBound(t, p, c, r)
	for site, v := range r.Verdicts {
		if v.Kind == api.Definite {
			wantTapeFaults(t, p, c, site, v)
			tapes = append(slices.Clip(tapes), v.Tape)
			seen["definite"]++
			seen["definite late"] += min(v.Round, 1)
		}
		if v.Kind == api.Safe {
			seen["safe"]++
			seen["safe late"] += min(v.Round, 1)
		}
	}
	for i, tape := range tapes {
		if wantSafe(t, p, c, r, tape, []int{400, 80, api.MaxFuel, 150}[i%4]) {
			seen["faulted"]++
		} else {
			seen["not faulted"]++
		}
	}
}

// P0.3, P0.4, P0.7: programs of each shape, at the corners, on many tapes.
func TestVerdictsAreTrue(t *testing.T) {
	t.Parallel()
	seen := map[string]int{}
	for _, text := range texts() {
		for _, c := range corners() {
			wantTrue(t, text, c, tapes(), seen)
		}
	}
	wantSeen(t, seen, map[string]int{"definite": 200, "definite late": 40, "safe": 400, "safe late": 30, "faulted": 4000, "not faulted": 4000})
}

// P0.3, P0.4, P0.7: programs, configurations and tapes by chance.
func TestVerdictsAreTrueByChance(t *testing.T) {
	t.Parallel()
	m := newMaker(285)
	seen := map[string]int{}
	for i := range 350 {
		var tapes [][]int64
		for range 25 {
			tapes = append(tapes, m.tape())
		}
		wantTrue(t, m.program(1+i%4), m.config(), tapes, seen)
	}
	wantSeen(t, seen, map[string]int{"definite": 100, "definite late": 12, "safe": 400, "safe late": 12, "faulted": 2000, "not faulted": 2000})
}

// wantRoundsLoseNothing holds that each site that is Safe or Definite is told the same with more rounds, and that a site which is told by a round is Unknown with less.
func wantRoundsLoseNothing(t testing.TB, text string, c api.Config, seen map[string]int) {
	t.Helper()
	var told []api.Result
	for c.Rounds = 0; c.Rounds <= api.MaxRounds; c.Rounds++ {
		told = append(told, analyzed(t, text, c))
	}
	for less, r := range told {
		for site, v := range r.Verdicts {
			for more := less + 1; more < len(told); more++ {
				w := told[more].Verdicts[site]
				switch {
				case v.Kind != api.Unknown && tellVerdict(v) != tellVerdict(w):
					t.Fatalf("P0.6: with %+v the site %d of %q is %+v with %d rounds, %+v with %d", c, site, text, v, less, w, more)
				case v.Kind == api.Unknown && w.Kind != api.Unknown && (w.Round <= less || w.Round > more):
					t.Fatalf("P0.6: with %+v the site %d of %q is %+v with %d rounds, %+v with %d", c, site, text, v, less, w, more)
				case v.Kind != api.Unknown:
					seen["kept"]++
				case w.Kind != api.Unknown:
					seen["won"]++
				}
			}
		}
	}
}

// P0.6: programs of each shape, at the corners, and by chance.
func TestRoundsLoseNothing(t *testing.T) {
	t.Parallel()
	seen := map[string]int{}
	for _, text := range texts() {
		for i, c := range corners() {
			if i%2 == 0 {
				wantRoundsLoseNothing(t, text, c, seen)
			}
		}
	}
	m := newMaker(286)
	for i := range 120 {
		wantRoundsLoseNothing(t, m.program(1+i%4), m.config(), seen)
	}
	wantSeen(t, seen, map[string]int{"kept": 3000, "won": 150})
}

// wantStatesIn holds that each state of a run is in some tables, at its vertex.
func wantStatesIn(t testing.TB, p api.Prog, c api.Config, tape []int64, tables ...api.Table) {
	t.Helper()
	const far = 120
	path, code := walk.Path(p, tape, far)
	number := 0
	for node, store := range walk.Stops(p, tape, far) {
		vertex, code2 := part.Follow(p, c, path[:number])
		if code != api.OK || code2 != api.OK {
			t.Fatalf("Follow = %v, %v", code, code2)
		}
		for i, u := range tables {
			if !env.Has(u[vertex], store) {
				t.Fatalf("P0.5: with %+v the state %d of the run on %v, at the node %d, isn't in the table %d: %v, %v", c, number, tape, node, i, store, u[vertex])
			}
		}
		number++
	}
}

// wantInvariants holds what is promised of the tables of an analysis, on some tapes.
func wantInvariants(t testing.TB, text string, c api.Config, tapes [][]int64, seen map[string]int) {
	t.Helper()
	p := mustText(t, text)
	zeros, _ := env.Zero(p)
	first, _, code := fwd.Run(p, c, zeros, nil)
	if code != api.OK {
		t.Fatalf("fwd.Run with %+v = %v", c, code)
	}
	rounds := make([][]api.Table, len(p.Sites))
	for site := range p.Sites {
		_, rounds[site], _, _ = refine.Site(p, c, first, site)
		above := first
		for i, u := range rounds[site] {
			if !table.Leq(u, above) {
				t.Fatalf("P0.5: with %+v the table %d of the site %d of %q isn't below the one ahead of it", c, i, site, text)
			}
			above = u
			seen["below"]++
		}
	}
	for _, tape := range tapes {
		wantStatesIn(t, p, c, tape, first)
		if out := mustRun(t, p, tape, 120); out.Kind == api.Faulted {
			wantStatesIn(t, p, c, tape, rounds[out.Site]...)
			seen["faulted"] += min(len(rounds[out.Site]), 1)
		}
		seen["covered"]++
	}
}

// P0.5: programs of each shape, at the corners, and by chance.
func TestTablesHoldTheRuns(t *testing.T) {
	t.Parallel()
	seen := map[string]int{}
	for i, text := range texts() {
		for j, c := range corners() {
			c.Tries = 0
			wantInvariants(t, text, c, [][]int64{nil, tapes()[(i+j)%len(tapes())], tapes()[(3*i+7*j)%len(tapes())]}, seen)
		}
	}
	m := newMaker(287)
	for i := range 120 {
		c := m.config()
		c.Rounds, c.Tries = api.MaxRounds, 0
		wantInvariants(t, m.program(1+i%4), c, [][]int64{m.tape(), m.tape(), m.tape()}, seen)
	}
	wantSeen(t, seen, map[string]int{"below": 2000, "faulted": 400, "covered": 1500})
}

// greatest are programs with as many nodes, sites, scalars, loops or ifs as there may be, some of them.
func greatest() []string {
	inner := strings.Repeat("while x < y { ", 8) + "x := x + 1; assert x != 77; " + strings.Repeat("} ", 8)
	deep := strings.Repeat("while x < 9 { if y > x { y := y - 1; assert y != 5; ", 4) + strings.Repeat("} } ", 4)
	return []string{
		strings.Repeat("skip; ", api.MaxNodes-60) + strings.Repeat("assert x > 0; ", api.MaxSites),
		"input y; " + strings.Repeat("while x < y { x := x + 1; } ", 26) + strings.Repeat("x := y / x; ", 6),
		"input y; " + strings.Repeat("if x < y { x := x + 1; } else { skip; } ", 22) + strings.Repeat("x := y / x; ", 6),
		"input y; " + strings.Repeat(inner, 4) + "x := y / x;",
		"input y; " + strings.Repeat(deep, 2) + "x := y / x;",
		"input y; while 4 / x < 7 { " + strings.Repeat("x := -x; x := 1 - x; ", 28) + "} x := y / x;",
		"while true { " + strings.Repeat("input y; x := y / (x + 1); ", api.MaxSites) + strings.Repeat("skip; ", 190) + "}",
		"while c < 9 { input d; while d != e { a[d % 16] := b[e % 15] + d; e := e + g; if e > h { f := f / (g - 3); } else { h := h * 2; } } c := c + 1; assert f < h; assert z[c] == 0; }",
	}
}

// P0.1, P0.3, P0.4, P0.7: the greatest programs with the greatest configurations.
func TestGreatestPrograms(t *testing.T) {
	t.Parallel()
	seen := map[string]int{}
	for _, text := range greatest() {
		text = "var x; var y; var c; var d; var e; var f; var g; var h; array a[16]; array b[15]; array z[9]; " + text
		for _, c := range []api.Config{
			{Cap: 1, Narrow: 3, Rounds: 3},
			{Hist: 3, Unroll: 3, Cap: 6, Narrow: 3, Delay: 6, Rounds: 1, Tries: 4, Fuel: api.MaxFuel, Thresholds: []int64{-9, -3, 0, 5, 20, 100}},
		} {
			wantTrue(t, text, c, tapes()[:9], seen)
		}
	}
	wantSeen(t, seen, map[string]int{"definite": 10, "safe": 30, "faulted": 40, "not faulted": 60})
}
