package proof

import (
	"math"
	"slices"
	"strings"
	"testing"

	"winnow/api"
	"winnow/env"
	"winnow/interp"
	"winnow/num"
	"winnow/part"
	"winnow/table"
	"winnow/walk"
)

// long is the fuel of the runs that chains are held against, which has nothing to do with that of the configuration.
const long = 300

// tapes are some on which the texts' sites fault, and others.
func tapes() [][]int64 {
	list := [][]int64{nil, {5, -2, 7, 1, 0, 0, 3}, {1, 6}, {4, 6}, {12, 34}, {1, 4}, {1, 4, 5}, {0, 0, 77}}
	for _, a := range []int64{math.MinInt64, -1, 0, 1, 2, 3, 6, 7, 11, 49, 100, math.MaxInt64} {
		list = append(list, []int64{a}, []int64{a, 2, a, 4, a, a})
	}
	return list
}

// faulting are the sites at which a program faults on one of some tapes, rising.
func faulting(t *testing.T, p api.Prog, tapes [][]int64) []int {
	t.Helper()
	var sites []int
	for _, tape := range tapes {
		out, _, code := interp.Run(p, tape, long)
		if code != api.OK {
			t.Fatalf("Run on %v = %v", tape, code)
		}
		if out.Kind == api.Faulted {
			sites = append(sites, out.Site)
		}
	}
	slices.Sort(sites)
	return slices.Compact(sites)
}

// wantNotShown holds that tables don't show a site at which some run faults, and counts whether they hold for all that.
func (w *words) wantNotShown(seen map[string]int, tables []api.Table) {
	w.t.Helper()
	if Check(w.p, w.c, w.site, tables) {
		w.t.Fatalf("P26.3: the site %d, at which a run faults, is shown with %+v by %v", w.site, w.c, tables)
	}
	if len(tables) == 0 || len(tables) > 7 || w.broken(tables) != "" {
		seen["none"]++
	} else {
		seen["chain"]++
	}
}

// P26.3: no tables show a site at which some run faults: programs of each shape, and by chance.
func TestNothingThatFaultsIsShown(t *testing.T) {
	y := eachText(t, texts(), func(t *testing.T, p api.Prog, y *tally) {
		seen := map[string]int{}
		for _, site := range faulting(t, p, tapes()) {
			for j, c := range corners() {
				w := newWords(t, p, c, site)
				if _, ok := Make(p, c, site); ok {
					t.Fatalf("P26.3: Make of the site %d with %+v, at which a run faults", site, c)
				}
				for k, tables := range w.lists() {
					if (j+k+site)%8 == 0 || len(w.links) < 4 {
						w.wantNotShown(seen, tables)
					}
				}
			}
		}
		y.add(seen)
	})
	wantSeen(t, y.seen, map[string]int{"none": 1500, "chain": 1000})
	y = eachTurn(t, 263, 160, func(t *testing.T, m maker, y *tally) {
		p, c := mustText(t, m.program(1+m.Intn(4))), m.config()
		seen := map[string]int{}
		for _, site := range faulting(t, p, [][]int64{m.tape(), m.tape(), m.tape(), m.tape(), m.tape()}) {
			w := newWords(t, p, c, site)
			all := tops(t, p, c)
			pool := append(w.rounds(), all, filled(len(all), lost()))
			for range 15 {
				w.wantNotShown(seen, m.some(w, pool))
			}
		}
		y.add(seen)
	})
	wantSeen(t, y.seen, map[string]int{"none": 500, "chain": 500})
}

// state is one of a run's, at its vertex.
type state struct {
	vertex int
	store  api.Store
}

// statesOf are those of a run, at vertices that are followed edge by edge.
func statesOf(t *testing.T, p api.Prog, c api.Config, tape []int64) []state {
	t.Helper()
	path, code := walk.Path(p, tape, 40)
	if code != api.OK {
		t.Fatalf("Path = %v", code)
	}
	var states []state
	for node, store := range walk.Stops(p, tape, 40) {
		vertex, code := part.Follow(p, c, path[:len(states)])
		if x := mustSplit(t, p, c); code != api.OK || x.Verts[vertex].Node != node {
			t.Fatalf("Follow of %v = %d, %v, where the run is at the node %d", path, vertex, code, node)
		}
		states = append(states, state{vertex, store})
	}
	return states
}

// without are a Num without one of its numbers: with those below it, those above it, and those of other classes.
func without(a api.Num, v int64) []api.Num {
	list := []api.Num{num.Meet(a, raw(math.MinInt64, math.MaxInt64, 2, uint64(v)+1)), num.Meet(a, raw(math.MinInt64, math.MaxInt64, 7, uint64(v)%7+3)), {Bot: true}}
	if v > math.MinInt64 {
		list = append(list, num.Meet(a, upTo(v-1)))
	}
	if v < math.MaxInt64 {
		list = append(list, num.Meet(a, from(v+1)))
	}
	return list
}

// lacking are Envs that are an Env without the store: without the number of one scalar, or that of one array's element.
func lacking(e api.Env, s api.Store) []api.Env {
	list := []api.Env{lost()}
	for i, v := range s.Vars {
		for _, a := range without(e.Vars[i], v) {
			list = append(list, env.SetVar(e, i, a))
		}
	}
	for i, elements := range s.Arrays {
		for _, v := range []int64{elements[0], elements[len(elements)-1]} {
			for _, a := range without(e.Arrays[i], v) {
				list = append(list, env.SetArray(e, i, a))
			}
		}
	}
	return list
}

// wantLacking holds that tables, which are a chain, are none as soon as an Env of the first one lacks a store that a run reaches.
func (w *words) wantLacking(seen map[string]int, tables []api.Table, states []state) {
	w.t.Helper()
	for _, i := range places(len(states)) {
		at := states[i]
		whole := tables[0][at.vertex]
		if !env.Has(whole, at.store) {
			w.t.Fatalf("P26.4: Check takes %v with %+v, but the first table hasn't the state %d, %v", tables, w.c, i, at)
		}
		for _, e := range lacking(env.Norm(whole), at.store) {
			if env.Has(e, at.store) {
				w.t.Fatalf("%v has %v still", e, at.store)
			}
			if Check(w.p, w.c, w.site, spoilt(tables, 0, at.vertex, e)) {
				w.t.Fatalf("P26.4: with %+v the state %d, %v, isn't in %v, but the chain is taken: %v", w.c, i, at, e, tables)
			}
			seen["less"]++
		}
		seen["late"] += min(i, 1)
	}
}

// P26.4: programs of each shape, at the corners, on some tapes.
func TestFirstTablesThatLackAState(t *testing.T) {
	y := eachText(t, texts(), func(t *testing.T, p api.Prog, y *tally) {
		seen := map[string]int{}
		for j, c := range corners() {
			for site := range p.Sites {
				if (j+site)%3 > 0 {
					continue
				}
				w := newWords(t, p, c, site)
				for k, tables := range w.chains() {
					tape := tapes()[(3*j+5*k+7*site)%len(tapes())]
					w.wantLacking(seen, tables, statesOf(t, p, c, tape))
					seen["chain"]++
				}
			}
		}
		y.add(seen)
	})
	wantSeen(t, y.seen, map[string]int{"chain": 800, "less": 40000, "late": 2000})
}

// P26.3, P26.4: what Check takes covers each run, which doesn't fault at the site; by chance.
func TestWhatIsTakenCoversRuns(t *testing.T) {
	y := eachTurn(t, 264, 200, func(t *testing.T, m maker, y *tally) {
		p, c := mustText(t, m.program(1+m.Intn(4))), m.config()
		seen := map[string]int{}
		w := newWords(t, p, c, m.Intn(len(p.Sites)))
		all := tops(t, p, c)
		pool := append(w.rounds(), all, filled(len(all), lost()))
		c.Fuel = long
		for range 12 {
			tables := m.some(w, pool)
			taken := Check(p, w.c, w.site, tables)
			for range 4 {
				tape := m.tape()
				out, _, _ := interp.Run(p, tape, long)
				if taken && out.Kind == api.Faulted && out.Site == w.site {
					t.Fatalf("P26.3: on %v the site %d faults, but Check takes %v with %+v", tape, w.site, tables, c)
				}
				if len(tables) == 0 || len(tables) > 7 {
					continue
				}
				covers, number, code := table.Covers(p, c, tables[0], tape)
				if taken && (!covers || code != api.OK) {
					t.Fatalf("P26.4: the first table doesn't cover the run on %v: the state %d, %v; but Check takes %v with %+v", tape, number, code, tables, c)
				}
				seen[map[bool]string{true: "taken", false: "refused"}[taken]]++
				seen[map[bool]string{true: "covered", false: "lacking"}[covers]]++
			}
		}
		y.add(seen)
	})
	wantSeen(t, y.seen, map[string]int{"taken": 800, "refused": 3000, "covered": 3500, "lacking": 600})
}

// P26.1, DOC.md's P0.1: the greatest programs with the greatest configurations: what Make makes is taken.
func TestGreatestPrograms(t *testing.T) {
	t.Parallel()
	inner := strings.Repeat("while x < y { ", 8) + "x := x + 1; assert x != 77; " + strings.Repeat("} ", 8)
	deep := strings.Repeat("while x < 9 { if y > x { y := y - 1; assert y != 5; ", 4) + strings.Repeat("} } ", 4)
	for _, text := range []string{
		strings.Repeat("skip; ", api.MaxNodes-60) + strings.Repeat("assert x * 2 != 3; ", 8),
		"input y; " + strings.Repeat("while x < y { x := x + 1; } ", 27) + strings.Repeat("x := y / (x * 2 + 1); ", 3),
		"input y; " + strings.Repeat("if x < y { x := x + 1; } else { skip; } ", 22) + strings.Repeat("x := y / (x * 2 + 1); ", 3),
		"input y; " + strings.Repeat(inner, 4) + "x := y / x;",
		"input y; " + strings.Repeat(deep, 2) + "x := y / (y * 4 + 2);",
		"while true { " + strings.Repeat("input y; x := y / (x + 1); ", api.MaxSites) + strings.Repeat("skip; ", 200) + "}",
	} {
		p := mustText(t, "var x; var y; "+text)
		for _, c := range []api.Config{
			{Cap: 1, Narrow: 3, Rounds: 3},
			{Hist: 3, Unroll: 3, Cap: 6, Narrow: 3, Delay: 6, Rounds: 1, Tries: 4, Fuel: api.MaxFuel, Thresholds: []int64{-9, -3, 0, 5, 20, 100}},
		} {
			all := tops(t, p, c)
			for _, site := range []int{0, len(p.Sites) - 1} {
				tables, ok := Make(p, c, site)
				wantCheck(t, p, c, site, ok, tables...)
				newWords(t, p, c, site).want(map[string]int{}, slices.Repeat([]api.Table{all}, 7)...)
			}
		}
	}
}
