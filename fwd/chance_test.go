package fwd

import (
	"math"
	"math/rand"
	"strings"
	"testing"

	"winnow/api"
	"winnow/check"
	"winnow/config"
	"winnow/env"
	"winnow/num"
	"winnow/table"
	"winnow/walk"
)

// maker makes programs, configurations, tapes, Envs and tables by chance.
type maker struct{ *rand.Rand }

func newMaker(seed int64) maker { return maker{rand.New(rand.NewSource(seed))} }

func (m maker) pick(texts ...string) string { return texts[m.Intn(len(texts))] }

func (m maker) condition() string {
	return m.pick("x < 2", "x != y", "y > 3 || x < 0", "!(x == 2)", "a[x] < 1", "x % 2 == 0", "6 / y > 1", "x * y == 12", "y <= x && a[y] != x", "x - y < 3")
}

func (m maker) block(left int) string { return "{ " + m.statements(m.Intn(3), left-1) + "}" }

func (m maker) statements(number, left int) string {
	var text strings.Builder
	for range number {
		text.WriteString(m.statement(left) + " ")
	}
	return text.String()
}

func (m maker) statement(left int) string {
	if left > 0 {
		switch m.Intn(7) {
		case 0:
			return "if " + m.condition() + " " + m.block(left)
		case 1:
			return "if " + m.condition() + " " + m.block(left) + " else " + m.block(left)
		case 2:
			return "while " + m.condition() + " " + m.block(left)
		case 3, 4:
			return "while x < " + m.pick("3", "5", "y", "100") + " { x := x + " + m.pick("1", "2", "y") + "; " + m.statements(m.Intn(2), left-1) + "}"
		}
	}
	return m.pick("x := y + 1;", "a[x] := y;", "input y;", "input x;", "assert x < 9;", "skip;", "y := 7 / x;", "a[0] := x;",
		"x := x * 3;", "y := x % 4;", "x := -y;", "y := a[x] - 2;", "x := x * y;", "x := (x + y) / 2;")
}

// program makes texts until check takes one: some have too many sites.
func (m maker) program(left int) string {
	for {
		text := "var x; array a[3]; var y; " + m.statements(1+m.Intn(5), left)
		if _, err := check.Text(text); err == nil {
			return text
		}
	}
}

func (m maker) config() api.Config {
	c := api.Config{Hist: m.Intn(4), Unroll: m.Intn(4), Cap: 1 + m.Intn(6), Delay: m.Intn(7), Narrow: m.Intn(4), Fuel: m.Intn(60)}
	if m.Intn(2) == 0 {
		c.Delay = m.Intn(3)
	}
	c.Thresholds = [][]int64{nil, nil, {0}, {3, 10}, {-5, -1, 4}, {math.MinInt64, -9, 0, 9, 99, math.MaxInt64}}[m.Intn(6)]
	return c
}

func (m maker) whole() int64 {
	return []int64{m.Int63n(5), m.Int63n(5), m.Int63n(20) - 10, math.MaxInt64 - m.Int63n(2), math.MinInt64 + m.Int63n(2)}[m.Intn(5)]
}

func (m maker) tape() []int64 {
	var tape []int64
	for range m.Intn(9) {
		tape = append(tape, m.whole())
	}
	return tape
}

// number is a Num as it comes, often not in its normal form.
func (m maker) number() api.Num {
	switch m.Intn(6) {
	case 0:
		return num.Const(m.whole())
	case 1:
		return num.Top()
	case 2:
		return api.Num{Bot: m.Intn(9) == 0, I: api.Ival{Lo: m.whole(), Hi: m.whole()}, C: api.Cong{M: uint64(m.Intn(4)), R: uint64(m.Intn(9))}}
	}
	lo := m.Int63n(9) - 5
	return raw(lo, lo+m.Int63n(9), 1+uint64(m.Intn(3)), uint64(m.Intn(9)))
}

// fitting is an Env of two scalars and one array, dead at times.
func (m maker) fitting() api.Env {
	return api.Env{Dead: m.Intn(9) == 0, Vars: list(m.number(), m.number()), Arrays: list(m.number())}
}

// start is a start of a pass.
func (m maker) start(t testing.TB, p api.Prog) api.Env {
	switch m.Intn(5) {
	case 0, 1:
		return zeros(t, p)
	case 2:
		return top(t, p)
	}
	return m.fitting()
}

// limit is a table of so many Envs, many of them with room, some dead, some not in their normal form.
func (m maker) limit(t testing.TB, p api.Prog, number int) api.Table {
	var u api.Table
	for range number {
		e := top(t, p)
		switch m.Intn(24) {
		case 0:
			e = m.fitting()
		case 1, 2, 3:
			e = env.SetVar(e, 0, raw(-m.Int63n(9), m.Int63n(200), 1, 0))
		case 4, 5, 6:
			e.Vars[1] = raw(-m.Int63n(900), m.Int63n(900), 3, uint64(m.Intn(9)))
		}
		u = append(u, e)
	}
	return u
}

// P22.1, P22.3: passes by chance, held against the chapter's words.
func TestPassesByChance(t *testing.T) {
	t.Parallel()
	m := newMaker(221)
	seen := map[string]int{}
	for i := range 1500 {
		p, c := mustText(t, m.program(1+i%4)), m.config()
		var limit api.Table
		if m.Intn(3) > 0 {
			limit = m.limit(t, p, len(mustSplit(t, p, c).Verts))
		}
		wantWords(t, p, c, m.start(t, p), limit).tellSeen(seen)
	}
	if seen["the same"] < 600 || seen["used up"] < 300 || seen["taken"] < 100 || seen["thrice"] < 10 || seen["leapt"] < 200 || seen["slow"] < 100 || seen["quiet"] < 200 {
		t.Errorf("the passes are too much alike: %v", seen)
	}
}

// withZeros is a start that has the store of zeros.
func (m maker) withZeros(t testing.TB, p api.Prog) api.Env {
	if m.Intn(2) == 0 {
		return zeros(t, p)
	}
	return env.Join(zeros(t, p), m.fitting())
}

// P22.3: without a limit the answer covers every run; within one it covers those whose states are all in the limit.
func TestRunsAreCovered(t *testing.T) {
	t.Parallel()
	m := newMaker(222)
	longest, within := 0, 0
	for i := range 500 {
		p, c := mustText(t, m.program(1+i%4)), m.config()
		start := m.withZeros(t, p)
		first := passed(t, p, c, start)
		limit := m.limit(t, p, len(first))
		second, _, code := Run(p, c, start, limit)
		if code != api.OK {
			t.Fatalf("P22.1: Run within %v = %v", limit, code)
		}
		for range 6 {
			tape := m.tape()
			wantCovered(t, p, c, first, tape)
			if ok, _, _ := table.Covers(p, c, limit, tape); ok {
				wantCovered(t, p, c, second, tape)
				within++
			}
			path, _ := walk.Path(p, tape, c.Fuel)
			longest = max(longest, len(path))
		}
	}
	if longest < 50 || within < 250 {
		t.Errorf("the runs are too much alike: at most %d steps, %d within a limit", longest, within)
	}
}

// wantCovered holds that a table covers a run.
func wantCovered(t testing.TB, p api.Prog, c api.Config, u api.Table, tape []int64) {
	t.Helper()
	if ok, number, code := table.Covers(p, c, u, tape); !ok || code != api.OK {
		t.Fatalf("P22.3: the answer with %+v doesn't cover the run on %v: the state %d, %v; %v", c, tape, number, code, u)
	}
}

// P22.3: programs of each shape, at the corners, with a great fuel and all tapes of some numbers.
func TestRunsOnManyTapes(t *testing.T) {
	t.Parallel()
	var tapes [][]int64
	for _, a := range []int64{math.MinInt64, -1, 0, 1, 3, math.MaxInt64} {
		tapes = append(tapes, []int64{a}, []int64{a, 2, a, 4, a, a})
	}
	tapes = append(tapes, nil, []int64{5, -2, 7, 1, 0, 0, 3})
	for _, text := range texts() {
		p := mustText(t, text)
		for _, c := range corners() {
			c.Fuel = 300
			for _, start := range []api.Env{zeros(t, p), top(t, p)} {
				u := passed(t, p, c, start)
				for _, tape := range tapes {
					wantCovered(t, p, c, u, tape)
				}
			}
		}
	}
}

// P22.4, DOC.md's P0.7: the greatest programs; the passes end, and have no more applications than a pass may have.
func TestGreatestPrograms(t *testing.T) {
	t.Parallel()
	inner := strings.Repeat("while x < y { ", 8) + "x := x + 1; " + strings.Repeat("} ", 8)
	deep := strings.Repeat("while x < 9 { if y > x { y := y - 1; ", 5) + strings.Repeat("} } ", 5)
	for _, text := range []string{
		strings.Repeat("skip; ", api.MaxNodes-2),
		"input y; " + strings.Repeat("while x < y { x := x + 1; } ", 33),
		"input y; " + strings.Repeat("if x < y { x := x + 1; } else { skip; } ", 26),
		"input y; " + strings.Repeat(inner, 6),
		"input y; " + strings.Repeat(deep, 3),
		"input y; while x < 7 { " + strings.Repeat("x := -x; x := 1 - x; ", 30) + "} x := y / x;",
	} {
		p := mustText(t, "var x; var y; "+text)
		for _, c := range []api.Config{
			{Cap: 1, Narrow: 3},
			{Hist: 3, Unroll: 3, Cap: 6, Narrow: 3, Delay: 6, Thresholds: []int64{-9, -3, 0, 5, 20, 100}},
			{Hist: 2, Cap: 6, Narrow: 1, Thresholds: []int64{math.MinInt64, 5, math.MaxInt64}},
		} {
			u, number, code := Run(p, c, zeros(t, p), nil)
			if code != api.OK || !table.Fits(p, c, u) {
				t.Fatalf("P22.3: the answer of %q with %+v is %v", text, c, code)
			}
			if most, _ := config.Bound(p, c); uint64(number) > most {
				t.Errorf("P0.7: %d applications, at most %d", number, most)
			}
			wantFollows(t, newWords(t, p, c, zeros(t, p), nil), u)
		}
	}
}

// DOC.md's P0.7: passes by chance have no more applications than a pass may have.
func TestBoundByChance(t *testing.T) {
	t.Parallel()
	m := newMaker(223)
	for i := range 400 {
		p, c := mustText(t, m.program(1+i%4)), m.config()
		_, number, _ := Run(p, c, m.start(t, p), nil)
		if most, code := config.Bound(p, c); code != api.OK || uint64(number) > most {
			t.Fatalf("P0.7: %d applications, at most %d, %v", number, most, code)
		}
	}
}
