package table

import (
	"math"
	"math/rand"
	"strings"
	"testing"

	"winnow/api"
	"winnow/check"
	"winnow/env"
	"winnow/num"
)

// maker makes programs, configurations, tapes, Envs and tables by chance.
type maker struct{ *rand.Rand }

func newMaker(seed int64) maker { return maker{rand.New(rand.NewSource(seed))} }

func (m maker) pick(texts ...string) string { return texts[m.Intn(len(texts))] }

func (m maker) condition() string {
	return m.pick("x < 2", "x != y", "y > 3 || x < 0", "!(x == 2)", "a[x] < 1", "x % 2 == 0", "6 / y > 1")
}

func (m maker) block(left int) string { return "{ " + m.statements(m.Intn(3), left-1) + "}" }

func (m maker) statements(number, left int) string {
	var text strings.Builder
	for range number {
		text.WriteString(m.statement(left) + " ")
	}
	return text.String()
}

func (m maker) statement(left int) string {
	if left > 0 {
		switch m.Intn(6) {
		case 0:
			return "if " + m.condition() + " " + m.block(left)
		case 1:
			return "if " + m.condition() + " " + m.block(left) + " else " + m.block(left)
		case 2:
			return "while " + m.condition() + " " + m.block(left)
		case 3:
			return "while x < " + m.pick("3", "5", "y") + " { x := x + 1; " + m.statements(m.Intn(2), left-1) + "}"
		}
	}
	return m.pick("x := y + 1;", "a[x] := y;", "input y;", "input x;", "assert x < 9;", "skip;", "y := 7 / x;", "a[0] := x;")
}

// program makes texts until check takes one: some have too many sites.
func (m maker) program(left int) string {
	for {
		text := "var x; array a[3]; var y; " + m.statements(1+m.Intn(5), left)
		if _, err := check.Text(text); err == nil {
			return text
		}
	}
}

func (m maker) config() api.Config {
	return api.Config{Hist: m.Intn(4), Unroll: m.Intn(4), Cap: 1 + m.Intn(6), Fuel: []int{0, 1, 2, m.Intn(40), m.Intn(40), 40}[m.Intn(6)]}
}

func (m maker) whole() int64 {
	return []int64{m.Int63n(5), m.Int63n(5), m.Int63n(20) - 10, math.MaxInt64 - m.Int63n(2), math.MinInt64 + m.Int63n(2)}[m.Intn(5)]
}

func (m maker) tape() []int64 {
	var tape []int64
	for range m.Intn(9) {
		tape = append(tape, m.whole())
	}
	return tape
}

// number is a Num as it comes, often not in its normal form.
func (m maker) number() api.Num {
	switch m.Intn(6) {
	case 0:
		return num.Const(m.whole())
	case 1:
		return num.Top()
	case 2:
		return api.Num{Bot: m.Intn(3) == 0, I: api.Ival{Lo: m.whole(), Hi: m.whole()}, C: api.Cong{M: uint64(m.Intn(4)), R: uint64(m.Intn(9))}}
	}
	lo := m.Int63n(9) - 5
	return raw(lo, lo+m.Int63n(9), 1+uint64(m.Intn(3)), uint64(m.Intn(9)))
}

// fitting is an Env of two scalars and one array, dead at times.
func (m maker) fitting() api.Env {
	return api.Env{Dead: m.Intn(9) == 0, Vars: list(m.number(), m.number()), Arrays: list(m.number())}
}

// any is an Env of any shape.
func (m maker) any() api.Env {
	e := api.Env{Dead: m.Intn(6) == 0}
	for range []int{m.Intn(3), 1, 1, 1}[m.Intn(4)] {
		e.Vars = append(e.Vars, m.number())
	}
	for range m.Intn(9) / 6 {
		e.Arrays = append(e.Arrays, m.number())
	}
	return e
}

// near is an Env that has much in common with another one.
func (m maker) near(e api.Env) api.Env {
	switch m.Intn(6) {
	case 0:
		return m.any()
	case 1:
		return env.Join(e, m.any())
	case 2:
		return env.Meet(e, m.any())
	case 3:
		return env.SetVar(e, m.Intn(2), m.number())
	}
	return copied(e)
}

func (m maker) tables() (api.Table, api.Table) {
	var a, b api.Table
	for range m.Intn(5) {
		e := m.any()
		a, b = append(a, e), append(b, m.near(e))
	}
	switch m.Intn(8) {
	case 0:
		a = append(a, m.any())
	case 1:
		b = append(b, m.any())
	}
	return a, b
}

// P21.3: lists of any Envs by chance, held against each two Envs.
func TestListsByChance(t *testing.T) {
	m := newMaker(213)
	seen := map[[3]bool]int{}
	for range 20000 {
		a, b := m.tables()
		below, same := len(a) == len(b), len(a) == len(b)
		var met api.Table
		for i := range min(len(a), len(b)) {
			below = below && env.Leq(a[i], b[i])
			same = same && env.Same(a[i], b[i])
			met = append(met, env.Meet(a[i], b[i]))
		}
		seen[[3]bool{len(a) == len(b), below, same}]++
		if got := Leq(a, b); got != below {
			t.Fatalf("P21.3: Leq(%v, %v) = %v", a, b, got)
		}
		if got := Same(a, b); got != same {
			t.Fatalf("P21.3: Same(%v, %v) = %v", a, b, got)
		}
		if len(a) == len(b) {
			wantMeet(t, a, b, met)
			wantBelowBoth(t, a, b)
		} else {
			wantNoMeet(t, a, b)
		}
	}
	if len(seen) != 4 || seen[[3]bool{true, false, false}] < 1000 || seen[[3]bool{true, true, false}] < 1000 || seen[[3]bool{true, true, true}] < 1000 {
		t.Errorf("the lists are too much alike: %v", seen)
	}
}

// wantBelowBoth holds what follows of a meeting: it is below both, and the same as one that is below the other.
func wantBelowBoth(t *testing.T, a, b api.Table) {
	t.Helper()
	met, _ := Meet(a, b)
	if !Leq(met, a) || !Leq(met, b) {
		t.Fatalf("P21.3: Meet(%v, %v) = %v isn't below both", a, b, met)
	}
	if Leq(a, b) && !Same(met, a) {
		t.Fatalf("P21.3: Meet(%v, %v) = %v, though the first is below", a, b, met)
	}
}

// around is a table by which a run is often covered for a while: the least one, with some Envs greater, smaller or another.
func (m maker) around(least api.Table) api.Table {
	var u api.Table
	for _, e := range least {
		switch m.Intn(24) {
		case 0:
			e = m.fitting()
		case 1:
			e = lost()
		case 2:
			e = both(list(num.Top(), num.Top()), list(num.Top()))
		case 3, 4:
			e = env.Join(e, m.fitting())
		case 5:
			e = env.Meet(e, m.fitting())
		}
		u = append(u, e)
	}
	return u
}

// P21.4: programs, configurations, tapes and tables by chance, held against the chapter's words.
func TestCoversByChance(t *testing.T) {
	m := newMaker(214)
	covered, places := 0, map[int]int{}
	for i := range 2500 {
		p, c, tape := mustText(t, m.program(1+i%4)), m.config(), m.tape()
		run := states(t, p, c, tape)
		u := least(t, p, c, run)
		wantCovers(t, p, c, u, tape, true, 0)
		for range 6 {
			ok, place := wantByWords(t, p, c, m.around(u), tape, run)
			if ok {
				covered++
			} else {
				places[min(place, 10)]++
			}
		}
		if t.Failed() {
			t.FailNow()
		}
	}
	if covered < 1000 || len(places) != 11 || places[1] < 200 || places[10] < 80 {
		t.Errorf("the tables are too much alike: %d covered, the first that isn't %v", covered, places)
	}
}

// P21.4: each state of runs by chance is missed alone where it is the only one at its vertex.
func TestEachStateByChance(t *testing.T) {
	m := newMaker(215)
	asked := 0
	for i := range 300 {
		p, c, tape := mustText(t, m.program(1+i%4)), m.config(), m.tape()
		run := states(t, p, c, tape)
		u := least(t, p, c, run)
		at := map[int]int{}
		for _, s := range run {
			at[s.vertex]++
		}
		for place, s := range run {
			if at[s.vertex] == 1 {
				wantCovers(t, p, c, except(u, s.vertex, env.SetVar(u[s.vertex], 1, is(s.store.Vars[1]+1))), tape, false, place)
				asked++
			}
		}
		if t.Failed() {
			t.FailNow()
		}
	}
	if asked < 500 {
		t.Errorf("only %d states were missed", asked)
	}
}

// P21.1, P21.2: programs and configurations by chance.
func TestDeadByChance(t *testing.T) {
	m := newMaker(211)
	for i := range 600 {
		p, c := mustText(t, m.program(1+i%4)), m.config()
		number := len(mustSplit(t, p, c).Verts)
		d := mustDead(t, p, c)
		if tellTable(d) != tellTable(filled(number, lost())) {
			t.Fatalf("P21.1: Dead with %+v = %v, want %d Envs", c, d, number)
		}
		var u api.Table
		for range number + m.Intn(5)/4 {
			u = append(u, m.fitting())
		}
		want := len(u) == number
		if m.Intn(2) == 0 {
			e := m.any()
			place := m.Intn(len(u))
			u[place] = e
			want = want && env.Fits(p, e)
		}
		wantFits(t, p, c, u, want)
	}
}
