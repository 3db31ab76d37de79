package bwd

import (
	"math"
	"math/rand"
	"strings"
	"testing"

	"winnow/api"
	"winnow/check"
	"winnow/config"
	"winnow/env"
	"winnow/eval"
	"winnow/interp"
	"winnow/num"
	"winnow/table"
)

// maker makes programs, configurations, tapes, Envs and tables by chance.
type maker struct{ *rand.Rand }

func newMaker(seed int64) maker { return maker{rand.New(rand.NewSource(seed))} }

func (m maker) pick(texts ...string) string { return texts[m.Intn(len(texts))] }

func (m maker) condition() string {
	return m.pick("x < 2", "x != y", "y > 3 || x < 0", "!(x == 2)", "a[x] < 1", "x % 2 == 0", "6 / y > 1", "x * y == 12", "y <= x && a[y] != x", "x - y < 3", "12 % x < 6 / y")
}

func (m maker) block(left int) string { return "{ " + m.statements(m.Intn(3), left-1) + "}" }

func (m maker) statements(number, left int) string {
	var text strings.Builder
	for range number {
		text.WriteString(m.statement(left) + " ")
	}
	return text.String()
}

func (m maker) statement(left int) string {
	if left > 0 {
		switch m.Intn(7) {
		case 0:
			return "if " + m.condition() + " " + m.block(left)
		case 1:
			return "if " + m.condition() + " " + m.block(left) + " else " + m.block(left)
		case 2:
			return "while " + m.condition() + " " + m.block(left)
		case 3, 4:
			return "while x < " + m.pick("3", "5", "y", "100") + " { x := x + " + m.pick("1", "2", "y") + "; " + m.statements(m.Intn(2), left-1) + "}"
		}
	}
	return m.pick("x := y + 1;", "a[x] := y;", "input y;", "input x;", "assert x < 9;", "assert x != 0;", "skip;", "y := 7 / x;", "a[0] := x;", "assert x != 3 || y < 0;",
		"x := x * 3;", "y := x % 4;", "x := -y;", "y := a[x] - 2;", "x := x * y;", "x := (x + y) / 2;", "a[y] := a[x] / y;", "assert a[1] < 5;")
}

// program makes texts until check takes one that has a site: some have too many.
func (m maker) program(left int) string {
	for {
		text := "var x; array a[3]; var y; " + m.statements(1+m.Intn(5), left)
		if p, err := check.Text(text); err == nil && len(p.Sites) > 0 {
			return text
		}
	}
}

func (m maker) config() api.Config {
	c := api.Config{Hist: m.Intn(4), Unroll: m.Intn(4), Cap: 1 + m.Intn(6), Delay: m.Intn(7), Narrow: m.Intn(4), Fuel: m.Intn(60)}
	if m.Intn(2) == 0 {
		c.Delay = m.Intn(3)
	}
	c.Thresholds = [][]int64{nil, nil, {0}, {3, 10}, {-5, -1, 4}, {math.MinInt64, -9, 0, 9, 99, math.MaxInt64}}[m.Intn(6)]
	return c
}

func (m maker) whole() int64 {
	return []int64{m.Int63n(5), m.Int63n(5), m.Int63n(20) - 10, math.MaxInt64 - m.Int63n(2), math.MinInt64 + m.Int63n(2)}[m.Intn(5)]
}

func (m maker) tape() []int64 {
	var tape []int64
	for range m.Intn(9) {
		tape = append(tape, m.whole())
	}
	return tape
}

// number is a Num as it comes, often not in its normal form.
func (m maker) number() api.Num {
	switch m.Intn(6) {
	case 0:
		return num.Const(m.whole())
	case 1:
		return num.Top()
	case 2:
		return api.Num{Bot: m.Intn(9) == 0, I: api.Ival{Lo: m.whole(), Hi: m.whole()}, C: api.Cong{M: uint64(m.Intn(4)), R: uint64(m.Intn(9))}}
	}
	lo := m.Int63n(9) - 5
	return raw(lo, lo+m.Int63n(9), 1+uint64(m.Intn(3)), uint64(m.Intn(9)))
}

// fitting is an Env of two scalars and one array, dead at times.
func (m maker) fitting() api.Env {
	return api.Env{Dead: m.Intn(9) == 0, Vars: list(m.number(), m.number()), Arrays: list(m.number())}
}

// spoilt is a table with some of its Envs cut, wider, or others; some aren't in their normal form.
func (m maker) spoilt(t testing.TB, p api.Prog, u api.Table) api.Table {
	u = append(api.Table(nil), u...)
	for v, e := range u {
		switch m.Intn(24) {
		case 0:
			u[v] = m.fitting()
		case 1, 2, 3:
			u[v] = env.SetVar(e, 0, raw(-m.Int63n(9), m.Int63n(200), 1, 0))
		case 4, 5, 6:
			u[v] = env.SetVar(e, 1, raw(-m.Int63n(900), m.Int63n(900), 3, uint64(m.Intn(9))))
		case 7, 8:
			u[v] = env.Join(e, m.fitting())
		case 9:
			u[v] = top(t, p)
		}
	}
	return u
}

// within is a table: of a forward pass, of all stores, or such a one that is spoilt.
func (m maker) within(t testing.TB, p api.Prog, c api.Config) api.Table {
	switch m.Intn(8) {
	case 0, 1:
		return ahead(t, p, c, zeros(t, p))
	case 2:
		return ahead(t, p, c, top(t, p))
	case 3:
		return tops(t, p, c)
	case 4, 5:
		return m.spoilt(t, p, ahead(t, p, c, zeros(t, p)))
	}
	return m.spoilt(t, p, tops(t, p, c))
}

// P23.1, P23.2: passes by chance, held against the chapter's words.
func TestPassesByChance(t *testing.T) {
	t.Parallel()
	m := newMaker(231)
	seen := map[string]int{}
	for i := range 1200 {
		p, c := mustText(t, m.program(1+i%4)), m.config()
		u := m.within(t, p, c)
		if i%4 == 0 {
			// Where a loop is wide, and leaps early, there is most to be narrowed.
			c.Unroll, c.Delay, c.Narrow = 0, 0, api.MaxNarrow
			u = tops(t, p, c)
		}
		for site := range p.Sites {
			wantWords(t, p, c, u, site).tellSeen(seen)
		}
	}
	wantSeen(t, seen, map[string]int{"the same": 1500, "used up": 500, "taken": 50, "leapt": 200, "slow": 150, "cut": 30, "empty": 500, "both": 300, "closed": 500, "reached": 1000})
}

// faultsWithin tells the site at which the run on a tape faults, if all its states are in a table; -1 else.
func faultsWithin(t testing.TB, p api.Prog, c api.Config, u api.Table, tape []int64) int {
	t.Helper()
	out, _, code := interp.Run(p, tape, c.Fuel)
	ok, _, code2 := table.Covers(p, c, u, tape)
	if code != api.OK || code2 != api.OK {
		t.Fatalf("the run on %v with %+v: %v, %v", tape, c, code, code2)
	}
	if out.Kind != api.Faulted || !ok {
		return -1
	}
	return out.Site
}

// wantFaultCovered holds that an answer covers a run that faults at its site, and so has the store of zeros at the entry.
func wantFaultCovered(t testing.TB, p api.Prog, c api.Config, b api.Table, tape []int64) {
	t.Helper()
	if ok, number, code := table.Covers(p, c, b, tape); !ok || code != api.OK {
		t.Fatalf("P23.2: the answer with %+v doesn't cover the run on %v: the state %d, %v; %v", c, tape, number, code, b)
	}
	if z, _ := eval.Zero(p); !env.Has(b[0], z) {
		t.Fatalf("P23.2: the run on %v faults; at the entry there is %v", tape, b[0])
	}
}

// P23.2: the states of runs that fault at the site, up to the fault, are in the answer, if they are in the table.
func TestRunsThatFaultByChance(t *testing.T) {
	t.Parallel()
	m := newMaker(232)
	late, made, own := 0, 0, 0
	for i := range 700 {
		p, c := mustText(t, m.program(1+i%4)), m.config()
		u := m.within(t, p, c)
		for range 12 {
			tape := m.tape()
			site := faultsWithin(t, p, c, u, tape)
			if site < 0 {
				continue
			}
			wantFaultCovered(t, p, c, passed(t, p, c, u, site), tape)
			if out, _, _ := interp.Run(p, tape, c.Fuel); out.Steps > 5 {
				late++
			}
			made++
			if site > 0 {
				own++
			}
		}
	}
	if made < 1500 || late < 200 || own < 400 {
		t.Errorf("the runs are too much alike: %d fault within the table, %d late, %d at other sites than the first", made, late, own)
	}
}

// P23.2: programs of each shape, at the corners, on many tapes; and within an answer.
func TestRunsThatFaultOnManyTapes(t *testing.T) {
	t.Parallel()
	tapes := [][]int64{nil, {5, -2, 7, 1, 0, 0, 3}, {1, 6}, {4, 6}}
	for _, a := range []int64{math.MinInt64, -1, 0, 1, 2, 3, 6, 7, 11, 49, math.MaxInt64} {
		tapes = append(tapes, []int64{a}, []int64{a, 2, a, 4, a, a})
	}
	seen := map[string]int{}
	for _, text := range texts() {
		p := mustText(t, text)
		for _, c := range corners() {
			c.Fuel = 300
			for _, u := range []api.Table{ahead(t, p, c, zeros(t, p)), tops(t, p, c)} {
				first, second := map[int]api.Table{}, map[int]api.Table{}
				for _, tape := range tapes {
					site := faultsWithin(t, p, c, u, tape)
					if site < 0 {
						continue
					}
					if first[site] == nil {
						first[site] = passed(t, p, c, u, site)
						second[site] = passed(t, p, c, first[site], site)
					}
					wantFaultCovered(t, p, c, first[site], tape)
					wantFaultCovered(t, p, c, second[site], tape)
					seen[text]++
				}
			}
		}
	}
	if len(seen) < 14 {
		t.Errorf("only %d programs fault", len(seen))
	}
}

// P23.3, DOC.md's P0.7: the greatest programs; the passes end, and have no more applications than a pass may have.
func TestGreatestPrograms(t *testing.T) {
	t.Parallel()
	inner := strings.Repeat("while x < y { ", 8) + "x := x + 1; " + strings.Repeat("} ", 8)
	deep := strings.Repeat("while x < 9 { if y > x { y := y - 1; ", 5) + strings.Repeat("} } ", 5)
	for _, text := range []string{
		strings.Repeat("skip; ", api.MaxNodes-6) + "assert x > 0;",
		"input y; " + strings.Repeat("while x < y { x := x + 1; } ", 32) + "x := y / x;",
		"input y; " + strings.Repeat("if x < y { x := x + 1; } else { skip; } ", 25) + "x := y / x;",
		"input y; " + strings.Repeat(inner, 5) + "x := y / x;",
		"input y; " + strings.Repeat(deep, 3) + "x := y / x;",
		"input y; while 4 / x < 7 { " + strings.Repeat("x := -x; x := 1 - x; ", 30) + "} x := y / x;",
	} {
		p := mustText(t, "var x; var y; "+text)
		for _, c := range []api.Config{
			{Cap: 1, Narrow: 3},
			{Hist: 3, Unroll: 3, Cap: 6, Narrow: 3, Delay: 6, Thresholds: []int64{-9, -3, 0, 5, 20, 100}},
			{Hist: 2, Cap: 6, Narrow: 1, Thresholds: []int64{math.MinInt64, 5, math.MaxInt64}},
		} {
			for _, u := range []api.Table{ahead(t, p, c, zeros(t, p)), tops(t, p, c)} {
				b, number, code := Run(p, c, u, 0)
				if code != api.OK {
					t.Fatalf("P23.1: Run of %q with %+v = %v", text, c, code)
				}
				wantBound(t, p, c, number)
				wantFollows(t, newWords(t, p, c, u, 0), b)
			}
		}
	}
}

// wantBound holds that there are no more applications than a backward pass may have: two for each of a forward pass' ones.
func wantBound(t testing.TB, p api.Prog, c api.Config, number int) {
	t.Helper()
	c.Rounds = 0
	if most, code := config.Bound(p, c); code != api.OK || uint64(number) > 2*most {
		t.Fatalf("P0.7: %d applications, at most %d, %v", number, 2*most, code)
	}
}

// DOC.md's P0.7: passes by chance have no more applications than a pass may have.
func TestBoundByChance(t *testing.T) {
	t.Parallel()
	m := newMaker(233)
	for i := range 300 {
		p, c := mustText(t, m.program(1+i%4)), m.config()
		u := m.within(t, p, c)
		for site := range p.Sites {
			_, number, _ := Run(p, c, u, site)
			wantBound(t, p, c, number)
		}
	}
}
