package replay

import (
	"math"
	"math/rand"
	"slices"
	"strings"
	"testing"

	"winnow/api"
	"winnow/check"
	"winnow/env"
	"winnow/num"
)

// maker makes programs, configurations, Envs and tables by chance.
type maker struct{ *rand.Rand }

func newMaker(seed int64) maker { return maker{rand.New(rand.NewSource(seed))} }

func (m maker) pick(texts ...string) string { return texts[m.Intn(len(texts))] }

func (m maker) condition() string {
	return m.pick("x < 2", "x != y", "y > 3 || x < 0", "!(x == 2)", "a[x] < 1", "x % 2 == 0", "6 / y > 1", "x * y == 12", "y <= x && a[y] != x", "x - y < 3", "12 % x < 6 / y")
}

func (m maker) block(left int) string { return "{ " + m.statements(m.Intn(3), left-1) + "}" }

func (m maker) statements(number, left int) string {
	var text strings.Builder
	for range number {
		text.WriteString(m.statement(left) + " ")
	}
	return text.String()
}

func (m maker) statement(left int) string {
	if left > 0 {
		switch m.Intn(7) {
		case 0:
			return "if " + m.condition() + " " + m.block(left)
		case 1:
			return "if " + m.condition() + " " + m.block(left) + " else " + m.block(left)
		case 2:
			return "while " + m.condition() + " " + m.block(left)
		case 3, 4:
			return "while x < " + m.pick("3", "5", "y", "100") + " { x := x + " + m.pick("1", "2", "y") + "; " + m.statements(m.Intn(2), left-1) + "}"
		}
	}
	if m.Intn(5) < 2 {
		return m.pick("input x;", "input y;")
	}
	return m.pick("x := y + 1;", "a[x] := y;", "assert x < 9;", "assert x != 0;", "skip;", "y := 7 / x;", "a[0] := x;", "assert x != 3 || y < 0;",
		"x := x * 3;", "y := x % 4;", "x := -y;", "y := a[x] - 2;", "x := x * y;", "x := (x + y) / 2;", "a[y] := a[x] / (y + 1);", "assert a[1] < 5;")
}

// program makes texts until check takes one: some have too many sites.
func (m maker) program(left int) string {
	for {
		text := "var x; array a[3]; var y; " + m.statements(1+m.Intn(6), left)
		if _, err := check.Text(text); err == nil {
			return text
		}
	}
}

func (m maker) config() api.Config {
	return m.passed(api.Config{Hist: m.Intn(4), Unroll: m.Intn(4), Cap: 1 + m.Intn(6), Fuel: m.Intn(60), Tries: m.Intn(5)})
}

// passed is the configuration with other fields of passes and rounds.
func (m maker) passed(c api.Config) api.Config {
	c.Delay, c.Narrow, c.Rounds = m.Intn(7), m.Intn(4), m.Intn(4)
	c.Thresholds = [][]int64{nil, nil, {0}, {3, 10}, {-5, -1, 4}, {math.MinInt64, -9, 0, 9, 99, math.MaxInt64}}[m.Intn(6)]
	return c
}

func (m maker) whole() int64 {
	return []int64{m.Int63n(5), m.Int63n(5), m.Int63n(20) - 10, math.MaxInt64 - m.Int63n(2), math.MinInt64 + m.Int63n(2)}[m.Intn(5)]
}

// number is a Num as it comes, often not in its normal form.
func (m maker) number() api.Num {
	switch m.Intn(6) {
	case 0:
		return num.Const(m.whole())
	case 1:
		return num.Top()
	case 2:
		return api.Num{Bot: m.Intn(9) == 0, I: api.Ival{Lo: m.whole(), Hi: m.whole()}, C: api.Cong{M: uint64(m.Intn(4)), R: uint64(m.Intn(9))}}
	}
	lo := m.Int63n(9) - 5
	return raw(lo, lo+m.Int63n(9), 1+uint64(m.Intn(3)), uint64(m.Intn(9)))
}

// fitting is an Env of two scalars and one array, dead at times.
func (m maker) fitting() api.Env {
	return api.Env{Dead: m.Intn(9) == 0, Vars: list(m.number(), m.number()), Arrays: list(m.number())}
}

// by is a table: of a forward pass, of a backward one, of all stores, or of Envs by chance.
func (m maker) by(t testing.TB, p api.Prog, c api.Config) api.Table {
	u := ahead(t, p, c)
	switch m.Intn(5) {
	case 0:
		return u
	case 1, 2:
		if len(p.Sites) > 0 {
			return back(t, p, c, u, m.Intn(len(p.Sites)))
		}
		return u
	case 3:
		for v := range u {
			if m.Intn(3) == 0 {
				u[v] = env.Join(u[v], m.fitting())
			}
		}
		return u
	}
	for v := range u {
		u[v] = m.fitting()
	}
	return u
}

// P24.2, P24.3, P24.4: playings by chance, held against the chapter's words.
func TestPlayingsByChance(t *testing.T) {
	t.Parallel()
	m := newMaker(242)
	seen := map[string]int{}
	for i := range 1500 {
		p, c := mustText(t, m.program(1+i%4)), m.config()
		wantWords(t, p, c, m.by(t, p, c), seen)
	}
	wantSeen(t, seen, map[string]int{"fuel": 500, "end": 400, "fault": 400, "closed": 150, "read": 700, "many": 300, "none": 1000, "found": 200, "later": 30})
}

// P24.4: what is answered hangs on nothing of c but Hist, Unroll, Cap, Fuel and Tries.
func TestFieldsThatPlayNoPart(t *testing.T) {
	t.Parallel()
	m := newMaker(243)
	found := 0
	for i := range 200 {
		p, c := mustText(t, m.program(1+i%4)), m.config()
		u := m.by(t, p, c)
		for range 4 {
			other := m.passed(c)
			for try := range c.Tries {
				tape, code := Tape(p, c, u, try)
				if code != api.OK {
					t.Fatalf("P24.2: Tape with %+v = %v", c, code)
				}
				wantTape(t, p, other, u, try, tape...)
			}
			for site := range p.Sites {
				tape, n, ok, _ := Find(p, c, u, site)
				tape2, n2, ok2, code := Find(p, other, u, site)
				if !slices.Equal(tape, tape2) || n != n2 || ok != ok2 || code != api.OK {
					t.Fatalf("P24.4: Find with %+v = %v, %d, %v; with %+v = %v, %d, %v, %v", c, tape, n, ok, other, tape2, n2, ok2, code)
				}
				if ok {
					found++
				}
			}
		}
	}
	if found < 100 {
		t.Errorf("only %d tapes were found", found)
	}
}

// P24.3: what was found stays with more tries, and with just the fuel that the fault needs.
func TestMoreTriesLoseNothing(t *testing.T) {
	t.Parallel()
	m := newMaker(244)
	found := 0
	for i := range 250 {
		p, c := mustText(t, m.program(1+i%4)), m.config()
		u := m.by(t, p, c)
		for site := range p.Sites {
			tape, n, ok, _ := Find(p, c, u, site)
			if !ok {
				continue
			}
			found++
			more := c
			for more.Tries = c.Tries; more.Tries <= api.MaxTries; more.Tries++ {
				wantFound(t, p, more, u, site, n, tape...)
			}
			less := c
			less.Fuel = n
			wantFound(t, p, less, u, site, n, tape...)
		}
	}
	if found < 40 {
		t.Errorf("only %d tapes were found", found)
	}
}

// P0.1: the greatest programs with the greatest fuel end.
func TestGreatestPrograms(t *testing.T) {
	t.Parallel()
	for _, text := range []string{
		strings.Repeat("input x; ", api.MaxNodes-6) + "assert x > 0;",
		"while true { " + strings.Repeat("input y; x := y / (x + 1); ", 12) + strings.Repeat("skip; ", 200) + "}",
		strings.Repeat("while x >= 0 { ", 10) + "input x; assert x != 3; " + strings.Repeat("} ", 10),
	} {
		p := mustText(t, "var x; var y; "+text)
		for _, c := range []api.Config{
			{Cap: 1, Fuel: api.MaxFuel, Tries: 1},
			{Hist: 3, Unroll: 3, Cap: 6, Fuel: api.MaxFuel, Tries: 1},
		} {
			wantWords(t, p, c, distinct(t, p, c), map[string]int{})
		}
	}
}
