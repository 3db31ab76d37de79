package proof

import (
	"math"
	"math/rand"
	"slices"
	"strconv"
	"strings"
	"testing"

	"winnow/api"
	"winnow/check"
	"winnow/env"
	"winnow/num"
)

// maker makes programs, configurations, tapes, Envs and chains by chance.
type maker struct{ *rand.Rand }

func newMaker(seed int64) maker { return maker{rand.New(rand.NewSource(seed))} }

func (m maker) pick(texts ...string) string { return texts[m.Intn(len(texts))] }

func (m maker) condition() string {
	return m.pick("x < 2", "x != y", "y > 3 || x < 0", "!(x == 2)", "a[x] < 1", "x % 2 == 0", "6 / y > 1", "x * y == 12", "y <= x && a[y] != x", "x - y < 3", "12 % x < 6 / y", "x == 1", "y == 5", "z == x")
}

func (m maker) block(left int) string { return "{ " + m.statements(m.Intn(3), left-1) + "}" }

func (m maker) statements(number, left int) string {
	var text strings.Builder
	for range number {
		text.WriteString(m.statement(left) + " ")
	}
	return text.String()
}

func (m maker) statement(left int) string {
	if left > 0 {
		switch m.Intn(7) {
		case 0, 1:
			return "if " + m.condition() + " " + m.block(left)
		case 2:
			return "if " + m.condition() + " " + m.block(left) + " else " + m.block(left)
		case 3:
			return "while " + m.condition() + " " + m.block(left)
		case 4:
			return "while x < " + m.pick("3", "5", "y", "100") + " { x := x + " + m.pick("1", "2", "y") + "; " + m.statements(m.Intn(2), left-1) + "}"
		}
	}
	if m.Intn(3) == 0 {
		return m.pick("input x;", "input y;", "input z;")
	}
	return m.pick("x := y + 1;", "a[x] := y;", "assert x < 9;", "assert x != 0;", "skip;", "y := 7 / x;", "a[0] := x;", "assert x != 3 || y < 0;", "z := x;", "y := z;", "x := z;",
		"x := x * 3;", "y := x % 4;", "x := -y;", "y := a[x] - 2;", "x := x * y;", "x := (x + y) / 2;", "a[y] := a[x] / (y + 1);", "assert a[1] < 5;", "assert x == z;", "assert y + z != 12;")
}

// program makes texts until check takes one that has a site: some have too many.
func (m maker) program(left int) string {
	for {
		text := "var x; array a[3]; var y; var z; " + m.pick("", "input x; ", "input x; input y; z := x; ") + m.statements(1+m.Intn(5), left)
		if p, err := check.Text(text); err == nil && len(p.Sites) > 0 {
			return text
		}
	}
}

func (m maker) config() api.Config {
	c := api.Config{Hist: m.Intn(4), Unroll: m.Intn(4), Cap: 1 + m.Intn(6), Delay: m.Intn(7), Narrow: m.Intn(4), Rounds: m.Intn(4), Fuel: m.Intn(60), Tries: m.Intn(5)}
	if m.Intn(2) == 0 {
		c.Hist, c.Unroll = m.Intn(2), m.Intn(2)
	}
	if m.Intn(2) == 0 {
		c.Rounds, c.Tries = api.MaxRounds, m.Intn(2)
	}
	c.Thresholds = [][]int64{nil, nil, {0}, {3, 10}, {-5, -1, 4}, {math.MinInt64, -9, 0, 9, 99, math.MaxInt64}}[m.Intn(6)]
	return c
}

func (m maker) whole() int64 {
	return []int64{m.Int63n(5), m.Int63n(5), m.Int63n(20) - 10, math.MaxInt64 - m.Int63n(2), math.MinInt64 + m.Int63n(2)}[m.Intn(5)]
}

func (m maker) tape() []int64 {
	var tape []int64
	for range m.Intn(9) {
		tape = append(tape, m.whole())
	}
	return tape
}

// number is a Num as it comes, often not in its normal form.
func (m maker) number() api.Num {
	switch m.Intn(6) {
	case 0:
		return num.Const(m.whole())
	case 1, 2:
		return num.Top()
	case 3:
		return api.Num{Bot: m.Intn(9) == 0, I: api.Ival{Lo: m.whole(), Hi: m.whole()}, C: api.Cong{M: uint64(m.Intn(4)), R: uint64(m.Intn(9))}}
	}
	lo := m.Int63n(9) - 5
	return raw(lo, lo+m.Int63n(9), 1+uint64(m.Intn(3)), uint64(m.Intn(9)))
}

// fitting is an Env of the shape of another one, dead at times.
func (m maker) fitting(shape api.Env) api.Env {
	e := copied(shape)
	e.Dead = m.Intn(9) == 0
	for i := range e.Vars {
		e.Vars[i] = m.number()
	}
	for i := range e.Arrays {
		e.Arrays[i] = m.number()
	}
	return e
}

// spoil is an Env that is another one, somewhat less, or somewhat more.
func (m maker) spoil(e, shape api.Env) api.Env {
	switch m.Intn(6) {
	case 0:
		return m.fitting(shape)
	case 1:
		return env.Join(e, m.fitting(shape))
	case 2:
		return env.Meet(e, m.fitting(shape))
	case 3:
		return env.SetVar(e, m.Intn(4), m.number())
	case 4:
		if list := lesser(env.Norm(e)); len(list) > 0 {
			return list[m.Intn(len(list))]
		}
	}
	return lost()
}

// spoilt is a chain with other Envs at some places, and at times with tables that are left out, or stand in another order.
func (m maker) spoilt(tables []api.Table, shape api.Env) []api.Table {
	list := slices.Clone(tables)
	for range m.Intn(3) {
		if place := m.Intn(len(list)); len(list[place]) > 0 {
			vertex := m.Intn(len(list[place]))
			list[place] = except(list[place], vertex, m.spoil(list[place][vertex], shape))
		}
	}
	switch m.Intn(8) {
	case 0:
		m.Shuffle(len(list), func(i, j int) { list[i], list[j] = list[j], list[i] })
	case 1:
		list = list[:m.Intn(len(list)+1)]
	case 2:
		list = append(list, list[m.Intn(len(list))])
	}
	return list
}

// row is some tables of a pool in a row: those of a site's rounds in their order, at times, and others.
func (m maker) row(pool []api.Table) []api.Table {
	if m.Intn(2) == 0 {
		return slices.Clone(pool[:1+m.Intn(len(pool))])
	}
	var list []api.Table
	for range []int{0, 1, 1, 2, 2, 3, 4, 7, 8}[m.Intn(9)] {
		list = append(list, pool[m.Intn(len(pool))])
	}
	return list
}

// some is a chain as it comes: tables of the pool, spoilt at times, and mended at times so that each holds.
func (m maker) some(w *words, pool []api.Table) []api.Table {
	tables := m.row(pool)
	if len(tables) > 0 && m.Intn(3) > 0 {
		tables = m.spoilt(tables, w.z)
	}
	if len(tables) < 8 && m.Intn(3) == 0 {
		tables = w.closed(tables)
	}
	return tables
}

// P26.1: chains by chance, held against the chapter's words.
func TestChainsByChance(t *testing.T) {
	y := eachTurn(t, 261, 250, func(t *testing.T, m maker, y *tally) {
		p, c := mustText(t, m.program(1+m.Intn(4))), m.config()
		seen := map[string]int{}
		w := newWords(t, p, c, m.Intn(len(p.Sites)))
		all := tops(t, p, c)
		pool := append(w.rounds(), all, filled(len(all), lost()))
		for range 20 {
			w.want(seen, m.some(w, pool)...)
		}
		if made, ok := Make(p, c, w.site); ok {
			for range 20 {
				w.want(seen, m.spoilt(made, w.z)...)
			}
		}
		y.add(seen)
	})
	wantSeen(t, y.seen, map[string]int{
		"none": 200, "too many": 100, "start": 300, "link": 700, "seed": 50, "pre": 100, "start within": 150, "link within": 10,
		"alarm": 300, "zeros are left": 500, "shown forwards": 1000, "shown backwards": 60,
	})
}

// eachTurn runs a test so many times, each with a maker of its own, some at the same time, and tells what they have seen.
func eachTurn(t *testing.T, seed int64, turns int, test func(t *testing.T, m maker, y *tally)) *tally {
	const groups = 8
	y := &tally{seen: map[string]int{}}
	t.Run("turns", func(t *testing.T) {
		for group := range groups {
			t.Run(strconv.Itoa(group), func(t *testing.T) {
				t.Parallel()
				for i := group; i < turns; i += groups {
					test(t, newMaker(seed<<20+int64(i)), y)
				}
			})
		}
	})
	return y
}

// P26.2, P26.3: what Make makes, of programs by chance.
func TestMakesByChance(t *testing.T) {
	y := eachTurn(t, 262, 400, func(t *testing.T, m maker, y *tally) {
		p, c := mustText(t, m.program(1+m.Intn(4))), m.config()
		seen := map[string]int{}
		for site := range p.Sites {
			seen[newWords(t, p, c, site).wantMade()]++
		}
		y.add(seen)
	})
	wantSeen(t, y.seen, map[string]int{
		"definite": 80, "unknown": 150, "safe at once": 450, "safe backwards early": 15, "safe forwards early": 8,
	})
}
