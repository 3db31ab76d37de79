package proof

import (
	"fmt"
	"math"
	"os"
	"runtime/debug"
	"slices"
	"strings"
	"testing"

	"winnow/api"
	"winnow/check"
	"winnow/env"
	"winnow/fwd"
	"winnow/num"
	"winnow/part"
)

// The layers below make much that is used for a moment only: collected at each turn of a small heap, that takes more time than the tests do.
func TestMain(m *testing.M) {
	debug.SetGCPercent(800)
	os.Exit(m.Run())
}

// halves is the chapter's program: behind the if x is from 0 on.
const halves = "var x; input x; if x < 0 { x := 0; } else { skip; } assert x >= 0;"

// short has three vertices in a row, and one site.
const short = "var x; input x; assert x > 0;"

// branches has two ifs; what faults at its site has y 1 and x up to 0, and no branch leads there.
const branches = "var x; var y; input x; if x > 0 { y := 1; } else { y := 0; } if y == 1 { assert x > 0; }"

// twins has two numbers that are the same, which no table knows.
const twins = "var x; var y; input x; y := x; if x == 1 { assert y == 1; }"

// copies have numbers that are the same two by two: what one round tells of y tells of v, and so of w in the next one.
const copies = "var x; var y; var w; var v; input x; input w; y := x; v := w; if x == 1 { if y + v == 5 { "

// chain goes on for one round more: by w it tells of u, by the third condition of s, and so of t.
const chain = "var x; var y; var w; var v; var u; var s; var t; input x; input w; input t; y := x; v := w; u := w; s := t; if x == 1 { if y + v == 5 { if u + s == 9 { "

// rests can't be 4 by 8, which the backward pass sees as soon as it is known that 4 is wanted.
const rests = "var x; var y; var w; var v; input x; y := x; input w; if w > 12 && w < 18 { v := w % 8; if x == 1 { if y + v == 5 { assert false; } } }"

// loop has nodes that are told apart by Unroll and by Hist, and merged by a small Cap.
const loop = "var x; array a[2]; var y; input x; if x < 0 { x := 1; } else { skip; } while x < 4 { a[x % 2] := y; x := x + 1; input y; } assert y != 6;"

// calm has no site that can fault, whatever its numbers are.
const calm = "var x; array a[2]; var y; input x; if x < y { a[0] := 5; } else { y := x; } while x < 3 { x := x + 1; } assert x * 4 % 2 == 0;"

// everything is a program that has each kind of edge, and each kind of node.
const everything = "var x; array a[2]; var y; x := -1; a[x] := 3 / y; input y; assert a[0] < 4 && !(x == y); skip; " +
	"if x < y || false { skip; } else { y := x % 2; } while x < 2 { x := x + 1; if y < 0 { } while y < 3 { input y; } }"

// plain is a configuration in which no vertices are told apart.
func plain() api.Config { return api.Config{Cap: 1, Narrow: 1} }

// rounded is plain with some rounds, tries and steps.
func rounded(rounds, tries, fuel int) api.Config {
	return api.Config{Cap: 1, Narrow: 1, Rounds: rounds, Tries: tries, Fuel: fuel}
}

func mustText(t testing.TB, text string) api.Prog {
	t.Helper()
	p, err := check.Text(text)
	if err != nil {
		t.Fatalf("Text(%q) is refused: %v", text, err)
	}
	return p
}

func mustSplit(t testing.TB, p api.Prog, c api.Config) api.Part {
	t.Helper()
	x, code := part.Split(p, c)
	if code != api.OK {
		t.Fatalf("Split with %+v = %v", c, code)
	}
	return x
}

func zeros(t testing.TB, p api.Prog) api.Env {
	t.Helper()
	e, code := env.Zero(p)
	if code != api.OK {
		t.Fatalf("Zero = %v", code)
	}
	return e
}

func top(t testing.TB, p api.Prog) api.Env {
	t.Helper()
	e, code := env.Top(p)
	if code != api.OK {
		t.Fatalf("Top = %v", code)
	}
	return e
}

// tops is the table of all stores.
func tops(t testing.TB, p api.Prog, c api.Config) api.Table {
	t.Helper()
	return filled(len(mustSplit(t, p, c).Verts), top(t, p))
}

// firstOf is the table of the forward pass from the store of zeros, without a limit.
func firstOf(t testing.TB, p api.Prog, c api.Config) api.Table {
	t.Helper()
	u, _, code := fwd.Run(p, c, zeros(t, p), nil)
	if code != api.OK {
		t.Fatalf("fwd.Run with %+v = %v", c, code)
	}
	return u
}

func lost() api.Env { return api.Env{Dead: true} }

// vars is an Env of scalars alone.
func vars(list ...api.Num) api.Env { return api.Env{Vars: list} }

// both is an Env of scalars and arrays.
func both(vars, arrays []api.Num) api.Env { return api.Env{Vars: vars, Arrays: arrays} }

func list(l ...api.Num) []api.Num { return l }

func in(lo, hi int64) api.Num { return num.Range(lo, hi) }

func is(v int64) api.Num { return num.Const(v) }

func every() api.Num { return num.Top() }

func from(v int64) api.Num { return num.Range(v, math.MaxInt64) }

func upTo(v int64) api.Num { return num.Range(math.MinInt64, v) }

// raw is a Num as it is written, which need not be in its normal form.
func raw(lo, hi int64, m, r uint64) api.Num {
	return api.Num{I: api.Ival{Lo: lo, Hi: hi}, C: api.Cong{M: m, R: r}}
}

// odd is the numbers that leave the remainder 1 by 2.
func odd() api.Num { return raw(math.MinInt64, math.MaxInt64, 2, 1) }

// even is the others.
func even() api.Num { return raw(math.MinInt64, math.MaxInt64, 2, 0) }

// tellTable is a table's text: all fields of its Envs, so that nothing but nil and empty is alike.
func tellTable(t api.Table) string {
	var words []string
	for _, e := range t {
		words = append(words, fmt.Sprint(e.Dead, len(e.Vars), e.Vars, len(e.Arrays), e.Arrays))
	}
	return strings.Join(words, "; ")
}

func tellTables(tables []api.Table) string {
	var words []string
	for _, t := range tables {
		words = append(words, fmt.Sprint(len(t), ": ", tellTable(t)))
	}
	return strings.Join(words, " | ")
}

// filled is a table of so many Envs, all alike, each in memory of its own.
func filled(number int, e api.Env) api.Table {
	t := api.Table{}
	for range number {
		t = append(t, copied(e))
	}
	return t
}

func copied(e api.Env) api.Env {
	return api.Env{Dead: e.Dead, Vars: append([]api.Num(nil), e.Vars...), Arrays: append([]api.Num(nil), e.Arrays...)}
}

// except is a table with e at one place.
func except(t api.Table, place int, e api.Env) api.Table {
	u := slices.Clone(t)
	u[place] = e
	return u
}

// spoilt is some tables with e at one vertex of one of them.
func spoilt(tables []api.Table, place, vertex int, e api.Env) []api.Table {
	list := slices.Clone(tables)
	list[place] = except(tables[place], vertex, e)
	return list
}

// times is a list of so many tables, all alike.
func times(number int, t api.Table) []api.Table {
	var list []api.Table
	for range number {
		list = append(list, t)
	}
	return list
}

// wantCheck holds an answer of Check.
func wantCheck(t testing.TB, p api.Prog, c api.Config, site int, want bool, tables ...api.Table) {
	t.Helper()
	if got := Check(p, c, site, tables); got != want {
		t.Errorf("P26.1: Check of the site %d with %+v and %d tables %v = %v, want %v", site, c, len(tables), tables, got, want)
	}
}

// wantMake holds an answer of Make, to the letter; no tables: that it answers nothing and false.
func wantMake(t testing.TB, p api.Prog, c api.Config, site int, tables ...api.Table) {
	t.Helper()
	got, ok := Make(p, c, site)
	if ok != (len(tables) > 0) || len(got) != len(tables) || tellTables(got) != tellTables(tables) {
		t.Errorf("P26.2: Make of the site %d with %+v = %v, %v, want %v", site, c, got, ok, tables)
	}
}

// The chapter's example 1.
func TestExampleOfAnInput(t *testing.T) {
	p := mustText(t, halves)
	for _, c := range []api.Config{{Cap: 1}, {Cap: api.MaxCap}, rounded(3, 4, 60)} {
		first := api.Table{vars(is(0)), vars(every()), vars(upTo(-1)), vars(from(0)), vars(from(0)), vars(from(0))}
		wantMake(t, p, c, 0, first)
		wantCheck(t, p, c, 0, true, first)
		wantCheck(t, p, c, 0, false, except(first, 4, vars(in(0, 9))))
		wantCheck(t, p, c, 0, false, tops(t, p, c))
	}
}

// The chapter's example 2.
func TestExampleOfTablesThatAreNone(t *testing.T) {
	p, c := mustText(t, halves), plain()
	first := firstOf(t, p, c)
	wantCheck(t, p, c, 0, false)
	wantCheck(t, p, c, 0, false, []api.Table{}...)
	for _, other := range []string{short, twins, branches, loop, "var x; input x; if x < 1 { x := 0; } else { skip; } assert x >= 0;", "var y; input y; if y < 0 { skip; } else { y := 0; } assert y <= 0;"} {
		wantCheck(t, p, c, 0, false, firstOf(t, mustText(t, other), c))
	}
	wantCheck(t, p, c, 0, false, times(9, first)...)
	wantCheck(t, p, c, 0, true, times(7, first)...)
}

// The chapter's example 3.
func TestExampleOfAnAssertionThatFails(t *testing.T) {
	for _, text := range []string{"var x; input x; assert x != 9;", short, "assert false;", "var x; input x; if x < 0 { skip; } else { skip; } assert x >= 0;"} {
		p := mustText(t, text)
		for rounds := range api.MaxRounds + 1 {
			for tries := range api.MaxTries + 1 {
				c := rounded(rounds, tries, 20)
				wantMake(t, p, c, 0)
				first := firstOf(t, p, c)
				number := len(first)
				all, none := tops(t, p, c), filled(number, lost())
				for _, tables := range [][]api.Table{
					{first}, {all}, {none}, {first, none}, {first, none, none}, {first, all, none}, {first, first}, {first, first, first}, {first, all, first},
					{all, none}, {all, all, none}, {all, all, all, none}, {all, none, none, none, none, none, none},
				} {
					wantCheck(t, p, c, 0, false, tables...)
				}
			}
		}
	}
}

// DOC.md's examples of the whole that are Safe: Make makes a chain, and Check takes it.
func TestExamplesOfTheWhole(t *testing.T) {
	filling := "array a[4]; var i; while i < 4 { a[i] := i; i := i + 1; }"
	for _, row := range []struct {
		text   string
		c      api.Config
		number int // of tables, of the site 0
	}{
		{short, rounded(0, 1, 9), 0}, {short, rounded(3, 0, 9), 0},
		{branches, rounded(0, 0, 0), 0}, {branches, rounded(1, 0, 0), 2}, {branches, api.Config{Hist: 1, Cap: 2}, 1},
		{"var x; input x; assert x != 7 || false;", rounded(1, 1, 9), 0},
		{filling, api.Config{Cap: 1, Thresholds: []int64{4}}, 1}, {filling, plain(), 1},
		{"var i; while i >= 0 { i := i + 1; } assert i < 0;", plain(), 1},
		{"var x; input x; x := x * 4; assert x % 2 == 0;", plain(), 1},
		{"var x; x := 1 / x;", rounded(0, 1, 1), 0}, {"var x; x := 1 / x;", rounded(3, 0, 1), 0},
		{"var x; if x != 0 { x := 1 / x; }", plain(), 1},
		{"assert 1 / 0 == 0 || true;", rounded(0, 1, 1), 1},
		{"var x;", rounded(3, 4, 9), 0}, {"", rounded(3, 4, 9), 0},
	} {
		p := mustText(t, row.text)
		tables, ok := Make(p, row.c, 0)
		if ok != (row.number > 0) || len(tables) != row.number {
			t.Errorf("P26.2: Make of %q with %+v = %v, %v, want %d", row.text, row.c, tables, ok, row.number)
		}
		wantCheck(t, p, row.c, 0, ok, tables...)
	}
}
