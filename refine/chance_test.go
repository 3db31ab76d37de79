package refine

import (
	"math"
	"math/rand"
	"slices"
	"strings"
	"testing"

	"winnow/api"
	"winnow/bwd"
	"winnow/check"
	"winnow/config"
	"winnow/env"
	"winnow/interp"
	"winnow/num"
	"winnow/table"
)

// maker makes programs, configurations, tapes, Envs and tables by chance.
type maker struct{ *rand.Rand }

func newMaker(seed int64) maker { return maker{rand.New(rand.NewSource(seed))} }

func (m maker) pick(texts ...string) string { return texts[m.Intn(len(texts))] }

func (m maker) condition() string {
	return m.pick("x < 2", "x != y", "y > 3 || x < 0", "!(x == 2)", "a[x] < 1", "x % 2 == 0", "6 / y > 1", "x * y == 12", "y <= x && a[y] != x", "x - y < 3", "12 % x < 6 / y", "x == 1", "y == 5", "z == x")
}

func (m maker) block(left int) string { return "{ " + m.statements(m.Intn(3), left-1) + "}" }

func (m maker) statements(number, left int) string {
	var text strings.Builder
	for range number {
		text.WriteString(m.statement(left) + " ")
	}
	return text.String()
}

func (m maker) statement(left int) string {
	if left > 0 {
		switch m.Intn(7) {
		case 0, 1:
			return "if " + m.condition() + " " + m.block(left)
		case 2:
			return "if " + m.condition() + " " + m.block(left) + " else " + m.block(left)
		case 3:
			return "while " + m.condition() + " " + m.block(left)
		case 4:
			return "while x < " + m.pick("3", "5", "y", "100") + " { x := x + " + m.pick("1", "2", "y") + "; " + m.statements(m.Intn(2), left-1) + "}"
		}
	}
	if m.Intn(3) == 0 {
		return m.pick("input x;", "input y;", "input z;")
	}
	return m.pick("x := y + 1;", "a[x] := y;", "assert x < 9;", "assert x != 0;", "skip;", "y := 7 / x;", "a[0] := x;", "assert x != 3 || y < 0;", "z := x;", "y := z;", "x := z;",
		"x := x * 3;", "y := x % 4;", "x := -y;", "y := a[x] - 2;", "x := x * y;", "x := (x + y) / 2;", "a[y] := a[x] / (y + 1);", "assert a[1] < 5;", "assert x == z;", "assert y + z != 12;")
}

// program makes texts until check takes one that has a site: some have too many.
func (m maker) program(left int) string {
	for {
		text := "var x; array a[3]; var y; var z; " + m.pick("", "input x; ", "input x; input y; z := x; ") + m.statements(1+m.Intn(5), left)
		if p, err := check.Text(text); err == nil && len(p.Sites) > 0 {
			return text
		}
	}
}

func (m maker) config() api.Config {
	c := api.Config{Hist: m.Intn(4), Unroll: m.Intn(4), Cap: 1 + m.Intn(6), Delay: m.Intn(7), Narrow: m.Intn(4), Rounds: m.Intn(4), Fuel: m.Intn(60), Tries: m.Intn(5)}
	if m.Intn(2) == 0 {
		c.Hist, c.Unroll = m.Intn(2), m.Intn(2)
	}
	if m.Intn(3) == 0 {
		c.Rounds, c.Tries = api.MaxRounds, m.Intn(2)
	}
	c.Thresholds = [][]int64{nil, nil, {0}, {3, 10}, {-5, -1, 4}, {math.MinInt64, -9, 0, 9, 99, math.MaxInt64}}[m.Intn(6)]
	return c
}

func (m maker) whole() int64 {
	return []int64{m.Int63n(5), m.Int63n(5), m.Int63n(20) - 10, math.MaxInt64 - m.Int63n(2), math.MinInt64 + m.Int63n(2)}[m.Intn(5)]
}

func (m maker) tape() []int64 {
	var tape []int64
	for range m.Intn(9) {
		tape = append(tape, m.whole())
	}
	return tape
}

// number is a Num as it comes, often not in its normal form.
func (m maker) number() api.Num {
	switch m.Intn(6) {
	case 0:
		return num.Const(m.whole())
	case 1, 2:
		return num.Top()
	case 3:
		return api.Num{Bot: m.Intn(9) == 0, I: api.Ival{Lo: m.whole(), Hi: m.whole()}, C: api.Cong{M: uint64(m.Intn(4)), R: uint64(m.Intn(9))}}
	}
	lo := m.Int63n(9) - 5
	return raw(lo, lo+m.Int63n(9), 1+uint64(m.Intn(3)), uint64(m.Intn(9)))
}

// fitting is an Env of three scalars and one array, dead at times.
func (m maker) fitting() api.Env {
	return api.Env{Dead: m.Intn(9) == 0, Vars: list(m.number(), m.number(), m.number()), Arrays: list(m.number())}
}

// first is a table: of a forward pass, of all stores, of a backward pass, or such a one that is spoilt.
func (m maker) first(t testing.TB, p api.Prog, c api.Config) api.Table {
	var u api.Table
	switch m.Intn(6) {
	case 0, 1, 2:
		return firstOf(t, p, c)
	case 3:
		u = tops(t, p, c)
	case 4:
		u, _, _ = bwd.Run(p, c, tops(t, p, c), m.Intn(len(p.Sites)))
	case 5:
		u = firstOf(t, p, c)
	}
	for v, e := range u {
		switch m.Intn(20) {
		case 0:
			u[v] = m.fitting()
		case 1, 2:
			u[v] = env.SetVar(e, 0, raw(-m.Int63n(9), m.Int63n(200), 1, 0))
		case 3, 4:
			u[v] = env.Join(e, m.fitting())
		case 5:
			u[v] = top(t, p)
		}
	}
	return u
}

// P25.1: sites by chance, by first tables of all kinds, held against point 13.
func TestSitesByChance(t *testing.T) {
	t.Parallel()
	m := newMaker(251)
	seen := map[string]int{}
	for i := range 500 {
		p, c := mustText(t, m.program(1+i%4)), m.config()
		first := m.first(t, p, c)
		for site := range p.Sites {
			wantWords(t, p, c, first, site, seen)
		}
	}
	wantSeen(t, seen, map[string]int{
		"no alarm at once": 500, "a try at once": 60, "a later try at once": 30, "no round left at once": 60,
		"no way there": 80, "no alarm": 40, "a try": 10, "the same": 8, "no round left": 10,
		"the same late": 100, "no round left late": 3, "a try late": 2,
	})
}

// P25.2, DOC.md's P0.7: whole analyses by chance.
func TestAnalysesByChance(t *testing.T) {
	t.Parallel()
	m := newMaker(252)
	kinds := map[int]int{}
	for i := range 200 {
		p, c := mustText(t, m.program(1+i%4)), m.config()
		r := wantWhole(t, p, c)
		told := map[api.VerdictKind]bool{}
		for _, v := range r.Verdicts {
			told[v.Kind] = true
		}
		kinds[len(told)]++
	}
	if kinds[2] < 50 || kinds[3] < 8 {
		t.Errorf("the analyses are too much alike: %v", kinds)
	}
}

// wantTapeFaults holds that on a tape the program faults at a site in just that step, with each fuel from there on, and not with less; and that a longer tape changes nothing.
func wantTapeFaults(t testing.TB, p api.Prog, site int, v api.Verdict) {
	t.Helper()
	longer := append(slices.Clone(v.Tape), 5, -7)
	for _, tape := range [][]int64{v.Tape, longer} {
		for _, fuel := range []int{v.Steps, v.Steps + 1, api.MaxFuel} {
			out, _, code := interp.Run(p, tape, min(fuel, api.MaxFuel))
			if code != api.OK || out != (api.Outcome{Kind: api.Faulted, Site: site, Steps: v.Steps, Reads: len(v.Tape)}) {
				t.Fatalf("P25.3: the site %d is %+v; the run on %v with the fuel %d is %+v, %v", site, v, tape, fuel, out, code)
			}
		}
	}
	if out, _, code := interp.Run(p, v.Tape, v.Steps-1); code != api.OK || out.Kind == api.Faulted {
		t.Fatalf("P25.3: the site %d is %+v; with the fuel %d the run is %+v, %v", site, v, v.Steps-1, out, code)
	}
}

// DOC.md's P0.3, P0.4: no run faults at a site that is Safe, and a Definite's tape does in its step; by chance, and on many tapes.
func TestVerdictsAreTrue(t *testing.T) {
	t.Parallel()
	m := newMaker(253)
	seen := map[string]int{}
	for i := range 250 {
		p, c := mustText(t, m.program(1+i%4)), m.config()
		r, code := All(p, c)
		if code != api.OK {
			t.Fatalf("P25.2: All with %+v = %v", c, code)
		}
		for site, v := range r.Verdicts {
			if v.Kind == api.Definite {
				wantTapeFaults(t, p, site, v)
				seen["definite"]++
				seen["late"] += min(v.Round, 1)
			}
		}
		for range 20 {
			tape := m.tape()
			out, _, code := interp.Run(p, tape, 300)
			if code != api.OK {
				t.Fatalf("Run on %v = %v", tape, code)
			}
			if out.Kind != api.Faulted {
				continue
			}
			if v := r.Verdicts[out.Site]; v.Kind == api.Safe {
				t.Fatalf("P25.3: the site %d is %+v with %+v; on %v it faults", out.Site, v, c, tape)
			}
			seen["faulted"]++
			seen["other"] += min(out.Site, 1)
		}
	}
	wantSeen(t, seen, map[string]int{"definite": 80, "late": 10, "faulted": 1000, "other": 400})
}

// DOC.md's P0.3 to P0.5: programs of each shape, at the corners, on many tapes.
func TestRunsOnManyTapes(t *testing.T) {
	t.Parallel()
	tapes := [][]int64{nil, {5, -2, 7, 1, 0, 0, 3}, {1, 6}, {4, 6}, {12, 34}, {1, 4}}
	for _, a := range []int64{math.MinInt64, -1, 0, 1, 2, 3, 6, 7, 11, 49, 100, math.MaxInt64} {
		tapes = append(tapes, []int64{a}, []int64{a, 2, a, 4, a, a})
	}
	faulted := 0
	for _, text := range texts() {
		p := mustText(t, text)
		for i, c := range corners() {
			if i%2 > 0 {
				continue
			}
			first := firstOf(t, p, c)
			for site := range p.Sites {
				v, tables, _, _ := Site(p, c, first, site)
				if v.Kind == api.Definite {
					wantTapeFaults(t, p, site, v)
				}
				for _, tape := range tapes {
					if wantHeld(t, p, c, first, tables, site, v, tape) {
						faulted++
					}
				}
			}
		}
	}
	if faulted < 1000 {
		t.Errorf("only %d runs have faulted", faulted)
	}
}

// wantHeld holds that the first table covers a run, and that the site's tables do if it faults there; it tells whether it does.
func wantHeld(t testing.TB, p api.Prog, c api.Config, first api.Table, tables []api.Table, site int, v api.Verdict, tape []int64) bool {
	t.Helper()
	c.Fuel = 300
	if ok, number, code := table.Covers(p, c, first, tape); !ok || code != api.OK {
		t.Fatalf("P25.3: the first table with %+v doesn't cover the run on %v: the state %d, %v", c, tape, number, code)
	}
	out, _, code := interp.Run(p, tape, c.Fuel)
	if code != api.OK || out.Kind != api.Faulted || out.Site != site {
		return false
	}
	if v.Kind == api.Safe {
		t.Fatalf("P25.3: the site %d is %+v with %+v; on %v it faults", site, v, c, tape)
	}
	for i, u := range tables {
		if ok, number, code := table.Covers(p, c, u, tape); !ok || code != api.OK {
			t.Fatalf("P25.3: the table %d with %+v doesn't cover the run on %v, which faults: the state %d, %v; %v", i, c, tape, number, code, u)
		}
	}
	return true
}

// DOC.md's P0.5: the states of runs that fault are in all tables of the rounds; by chance.
func TestTablesCoverFaults(t *testing.T) {
	t.Parallel()
	m := newMaker(254)
	faulted, several := 0, 0
	for i := range 150 {
		p, c := mustText(t, m.program(1+i%4)), m.config()
		c.Rounds, c.Tries = api.MaxRounds, 0
		first := firstOf(t, p, c)
		for range 12 {
			tape := m.tape()
			out, _, _ := interp.Run(p, tape, 300)
			if out.Kind != api.Faulted {
				continue
			}
			v, tables, _, code := Site(p, c, first, out.Site)
			if code != api.OK || !wantHeld(t, p, c, first, tables, out.Site, v, tape) {
				t.Fatalf("P25.1: Site %d with %+v = %v", out.Site, c, code)
			}
			faulted++
			several += min(len(tables)/4, 1)
		}
	}
	if faulted < 400 || several < 150 {
		t.Errorf("the runs are too much alike: %d fault, %d of them with two rounds", faulted, several)
	}
}

// ended tells whether more rounds can tell nothing else: the verdict isn't Unknown, or the last forward table is the same as the one ahead of it.
func ended(v api.Verdict, first api.Table, tables []api.Table) bool {
	forwards := []api.Table{first}
	for i := 1; i < len(tables); i += 2 {
		forwards = append(forwards, tables[i])
	}
	last := len(forwards) - 1
	return v.Kind != api.Unknown || last > 0 && table.Same(forwards[last], forwards[last-1])
}

// wantMore holds that more rounds begin with the same tables, and tell the same of a site, if it has ended.
func wantMore(t testing.TB, p api.Prog, c api.Config, first api.Table, site int, seen map[string]int) {
	t.Helper()
	c.Rounds = 0
	v, tables, number, _ := Site(p, c, first, site)
	for c.Rounds = 1; c.Rounds <= api.MaxRounds; c.Rounds++ {
		w, more, number2, code := Site(p, c, first, site)
		if code != api.OK || len(more) < len(tables) || tellTables(more[:len(tables)]) != tellTables(tables) {
			t.Fatalf("P25.3: with %d rounds the tables are %v, %v, with one less %v", c.Rounds, more, code, tables)
		}
		if ended(v, first, tables) {
			if tellVerdict(w) != tellVerdict(v) || len(more) != len(tables) || number2 != number {
				t.Fatalf("P25.3: with %d rounds the site %d is %+v, with one less %+v", c.Rounds, site, w, v)
			}
			seen["told"]++
		} else {
			if w.Round != c.Rounds || len(more) == len(tables) {
				t.Fatalf("P25.3: with %d rounds the site %d is %+v, with one less %+v", c.Rounds, site, w, v)
			}
			seen["new"]++
		}
		v, tables, number = w, more, number2
	}
}

// DOC.md's P0.6: rounds lose nothing: programs of each shape, at the corners, and by chance.
func TestMoreRoundsLoseNothing(t *testing.T) {
	t.Parallel()
	seen := map[string]int{}
	for _, text := range texts() {
		p := mustText(t, text)
		for i, c := range corners() {
			for j, first := range firsts(t, p, c)[:3] {
				if (i+j)%3 > 0 {
					continue
				}
				for site := range p.Sites {
					wantMore(t, p, c, first, site, seen)
				}
			}
		}
	}
	m := newMaker(255)
	for i := range 80 {
		p, c := mustText(t, m.program(1+i%4)), m.config()
		first := m.first(t, p, c)
		for site := range p.Sites {
			wantMore(t, p, c, first, site, seen)
		}
	}
	wantSeen(t, seen, map[string]int{"told": 3000, "new": 800})
}

// DOC.md's P0.1, P0.7: the greatest programs with the greatest configurations end, within the bound.
func TestGreatestPrograms(t *testing.T) {
	t.Parallel()
	inner := strings.Repeat("while x < y { ", 8) + "x := x + 1; assert x != 77; " + strings.Repeat("} ", 8)
	deep := strings.Repeat("while x < 9 { if y > x { y := y - 1; assert y != 5; ", 4) + strings.Repeat("} } ", 4)
	for _, text := range []string{
		strings.Repeat("skip; ", api.MaxNodes-60) + strings.Repeat("assert x > 0; ", api.MaxSites),
		"input y; " + strings.Repeat("while x < y { x := x + 1; } ", 27) + strings.Repeat("x := y / x; ", 6),
		"input y; " + strings.Repeat("if x < y { x := x + 1; } else { skip; } ", 22) + strings.Repeat("x := y / x; ", 6),
		"input y; " + strings.Repeat(inner, 4) + "x := y / x;",
		"input y; " + strings.Repeat(deep, 2) + "x := y / x;",
		"input y; while 4 / x < 7 { " + strings.Repeat("x := -x; x := 1 - x; ", 30) + "} x := y / x;",
		"while true { " + strings.Repeat("input y; x := y / (x + 1); ", api.MaxSites) + strings.Repeat("skip; ", 200) + "}",
	} {
		p := mustText(t, "var x; var y; "+text)
		for _, c := range []api.Config{
			{Cap: 1, Narrow: 3, Rounds: 3},
			{Hist: 3, Unroll: 3, Cap: 6, Narrow: 3, Delay: 6, Rounds: 1, Tries: 4, Fuel: api.MaxFuel, Thresholds: []int64{-9, -3, 0, 5, 20, 100}},
		} {
			r, code := All(p, c)
			if most, _ := config.Bound(p, c); code != api.OK || len(r.Verdicts) != len(p.Sites) || uint64(r.Posts) > most {
				t.Errorf("P25.3: All of %q with %+v = %+v, %v, at most %d applications", text, c, r, code, most)
			}
			for site, v := range r.Verdicts {
				if v.Kind == api.Definite {
					wantTapeFaults(t, p, site, v)
				}
			}
		}
	}
}
