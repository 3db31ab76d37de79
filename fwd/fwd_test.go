package fwd

import (
	"fmt"
	"math"
	"slices"
	"strings"
	"testing"

	"winnow/api"
	"winnow/check"
	"winnow/env"
	"winnow/num"
	"winnow/part"
)

// short has three nodes in a row.
const short = "var x; input x; assert x > 0;"

// counting is the chapter's loop.
const counting = "var x; while x < 3 { x := x + 1; }"

// loop has nodes that are told apart by Unroll and by Hist, and merged by a small Cap.
const loop = "var x; array a[2]; var y; input x; if x < 0 { x := 1; } else { skip; } while x < 4 { a[x % 2] := y; x := x + 1; input y; }"

// nested has a loop in a loop.
const nested = "var x; var y; while x < 5 { y := 0; while y < x { y := y + 2; } x := x + 1; } assert x == 5;"

// everything is a program that has each kind of edge, and each kind of node.
const everything = "var x; array a[2]; var y; x := -1; a[x] := 3 / y; input y; assert a[0] < 4 && !(x == y); skip; " +
	"if x < y || false { skip; } else { y := x % 2; } while x < 2 { x := x + 1; if y < 0 { } while y < 3 { input y; } }"

// plain is the configuration of the chapter's examples.
func plain() api.Config { return api.Config{Cap: 6, Narrow: 1} }

func mustText(t testing.TB, text string) api.Prog {
	t.Helper()
	p, err := check.Text(text)
	if err != nil {
		t.Fatalf("Text(%q) is refused: %v", text, err)
	}
	return p
}

func mustSplit(t testing.TB, p api.Prog, c api.Config) api.Part {
	t.Helper()
	x, code := part.Split(p, c)
	if code != api.OK {
		t.Fatalf("Split with %+v = %v", c, code)
	}
	return x
}

func zeros(t testing.TB, p api.Prog) api.Env {
	t.Helper()
	e, code := env.Zero(p)
	if code != api.OK {
		t.Fatalf("Zero = %v", code)
	}
	return e
}

func top(t testing.TB, p api.Prog) api.Env {
	t.Helper()
	e, code := env.Top(p)
	if code != api.OK {
		t.Fatalf("Top = %v", code)
	}
	return e
}

func lost() api.Env { return api.Env{Dead: true} }

// vars is an Env of scalars alone.
func vars(list ...api.Num) api.Env { return api.Env{Vars: list} }

// both is an Env of scalars and arrays.
func both(vars, arrays []api.Num) api.Env { return api.Env{Vars: vars, Arrays: arrays} }

func list(l ...api.Num) []api.Num { return l }

func in(lo, hi int64) api.Num { return num.Range(lo, hi) }

func is(v int64) api.Num { return num.Const(v) }

func from(v int64) api.Num { return num.Range(v, math.MaxInt64) }

// raw is a Num as it is written, which need not be in its normal form.
func raw(lo, hi int64, m, r uint64) api.Num {
	return api.Num{I: api.Ival{Lo: lo, Hi: hi}, C: api.Cong{M: m, R: r}}
}

// tell is an Env's text: all of its fields, so that nothing but nil and empty is alike.
func tell(e api.Env) string {
	return fmt.Sprint(e.Dead, len(e.Vars), e.Vars, len(e.Arrays), e.Arrays)
}

func tellTable(t api.Table) string {
	var words []string
	for _, e := range t {
		words = append(words, tell(e))
	}
	return strings.Join(words, "; ")
}

// filled is a table of so many Envs, all alike, each in memory of its own.
func filled(number int, e api.Env) api.Table {
	t := api.Table{}
	for range number {
		t = append(t, copied(e))
	}
	return t
}

func copied(e api.Env) api.Env {
	return api.Env{Dead: e.Dead, Vars: append([]api.Num(nil), e.Vars...), Arrays: append([]api.Num(nil), e.Arrays...)}
}

// except is a table with e at one place.
func except(t api.Table, place int, e api.Env) api.Table {
	u := append(api.Table(nil), t...)
	u[place] = e
	return u
}

// wantRun holds an answer of Run, to the letter.
func wantRun(t testing.TB, p api.Prog, c api.Config, start api.Env, limit, want api.Table, applications int) {
	t.Helper()
	got, number, code := Run(p, c, start, limit)
	if code != api.OK || len(got) != len(want) || tellTable(got) != tellTable(want) || number != applications {
		t.Errorf("P22.1: Run with %+v from %v within %v = %v, %d, %v, want %v, %d", c, start, limit, got, number, code, want, applications)
	}
}

// wantAlarms holds an answer of Alarms.
func wantAlarms(t testing.TB, p api.Prog, c api.Config, u api.Table, want ...int) {
	t.Helper()
	got, code := Alarms(p, c, u)
	if code != api.OK || !slices.Equal(got, want) {
		t.Errorf("P22.2: Alarms with %+v of %v = %v, %v, want %v", c, u, got, code, want)
	}
}

// passed is the table of the pass from a start, without a limit.
func passed(t testing.TB, p api.Prog, c api.Config, start api.Env) api.Table {
	t.Helper()
	u, _, code := Run(p, c, start, nil)
	if code != api.OK {
		t.Fatalf("P22.1: Run with %+v from %v = %v", c, start, code)
	}
	return u
}

// The chapter's example 1, and the same with variables.
func TestWithoutStatements(t *testing.T) {
	p := mustText(t, "")
	wantRun(t, p, plain(), zeros(t, p), nil, api.Table{{}}, 0)
	wantRun(t, p, plain(), lost(), nil, api.Table{lost()}, 0)
	wantRun(t, api.Prog{}, plain(), api.Env{}, nil, api.Table{{}}, 0)
	p = mustText(t, "var x; array a[3]; var y;")
	for _, c := range append(corners(), plain()) {
		for _, e := range []api.Env{zeros(t, p), top(t, p), lost(), both(list(in(1, 5), is(7)), list(in(-3, 3)))} {
			wantRun(t, p, c, e, nil, api.Table{e}, 0)
			wantRun(t, p, c, e, api.Table{}, api.Table{e}, 0)
			wantRun(t, p, c, e, api.Table{top(t, p)}, api.Table{e}, 0)
			wantRun(t, p, c, e, api.Table{zeros(t, p)}, api.Table{env.Meet(e, zeros(t, p))}, 0)
			wantRun(t, p, c, e, api.Table{lost()}, api.Table{lost()}, 0)
		}
		wantAlarms(t, p, c, api.Table{top(t, p)})
	}
}

// The chapter's example 2.
func TestOneAssignment(t *testing.T) {
	p := mustText(t, "var x; x := 1;")
	want := api.Table{vars(is(0)), vars(is(1))}
	wantRun(t, p, plain(), zeros(t, p), nil, want, 3)
	wantRun(t, p, api.Config{Cap: 6}, zeros(t, p), nil, want, 2)
	wantRun(t, p, api.Config{Cap: 6, Narrow: 3}, zeros(t, p), nil, want, 3)
	wantRun(t, p, plain(), lost(), nil, api.Table{lost(), lost()}, 0)
}

// The chapter's example 3: two applications in the first sweep, three in the second, in which the head leaps, three in the third; and three for U, three for what comes by it, each time that the table is narrowed.
func TestCounting(t *testing.T) {
	p := mustText(t, counting)
	z := zeros(t, p)
	for _, row := range []struct {
		narrow, applications int
		head, end            api.Num
	}{
		{0, 8, from(0), from(3)},
		{1, 14, in(0, 3), from(3)},
		{2, 20, in(0, 3), is(3)},
		{3, 23, in(0, 3), is(3)},
	} {
		wantRun(t, p, api.Config{Cap: 6, Narrow: row.narrow}, z, nil, api.Table{vars(row.head), vars(in(0, 2)), vars(row.end)}, row.applications)
	}
}

// The chapter's example 4.
func TestExamplesOfAlarms(t *testing.T) {
	p := mustText(t, short)
	wantAlarms(t, p, plain(), passed(t, p, plain(), zeros(t, p)), 0)
	wantAlarms(t, p, plain(), passed(t, p, plain(), lost()))
	p = mustText(t, "var x; x := 1 / x;")
	wantAlarms(t, p, plain(), passed(t, p, plain(), zeros(t, p)), 0)
	p = mustText(t, "var x; assert x == 0;")
	wantAlarms(t, p, plain(), passed(t, p, plain(), zeros(t, p)))
}

// The chapter's example 5.
func TestExamplesOfLimits(t *testing.T) {
	for _, text := range []string{short, counting, loop, nested, everything} {
		p := mustText(t, text)
		number := len(mustSplit(t, p, plain()).Verts)
		none := filled(number, lost())
		tops := filled(number, top(t, p))
		wantRun(t, p, plain(), zeros(t, p), none, none, 0)
		wantRun(t, p, plain(), zeros(t, p), except(tops, 0, lost()), none, 0)
		wantRun(t, p, plain(), lost(), nil, none, 0)
		wantRun(t, p, plain(), lost(), tops, none, 0)
		wantNoRun(t, p, plain(), zeros(t, p), tops[1:], api.ErrPut)
	}
}
