package bwd

import (
	"fmt"
	"math"
	"strings"
	"testing"

	"winnow/api"
	"winnow/check"
	"winnow/env"
	"winnow/fwd"
	"winnow/num"
	"winnow/part"
)

// short has three nodes in a row, and one site.
const short = "var x; input x; assert x > 0;"

// never has a division that doesn't fault.
const never = "var x; x := 1; x := 2 / x;"

// seven is the chapter's loop.
const seven = "var x; var y; input y; while x < 5 { x := x + 1; } assert y != 7;"

// loop has nodes that are told apart by Unroll and by Hist, and merged by a small Cap.
const loop = "var x; array a[2]; var y; input x; if x < 0 { x := 1; } else { skip; } while x < 4 { a[x % 2] := y; x := x + 1; input y; } assert y != 6;"

// falling has a site in its loop; backwards the numbers that lead to it fall until they wrap.
const falling = "var x; while x < 3 { x := x + 1; assert x != 0; }"

// nested has a loop in a loop.
const nested = "var x; var y; while x < 5 { y := 0; while y < x { y := y + 2; } x := x + 1; } assert x == 5;"

// everything is a program that has each kind of edge, and each kind of node.
const everything = "var x; array a[2]; var y; x := -1; a[x] := 3 / y; input y; assert a[0] < 4 && !(x == y); skip; " +
	"if x < y || false { skip; } else { y := x % 2; } while x < 2 { x := x + 1; if y < 0 { } while y < 3 { input y; } }"

// plain is the configuration of the chapter's examples.
func plain() api.Config { return api.Config{Cap: 6, Narrow: 1} }

func mustText(t testing.TB, text string) api.Prog {
	t.Helper()
	p, err := check.Text(text)
	if err != nil {
		t.Fatalf("Text(%q) is refused: %v", text, err)
	}
	return p
}

func mustSplit(t testing.TB, p api.Prog, c api.Config) api.Part {
	t.Helper()
	x, code := part.Split(p, c)
	if code != api.OK {
		t.Fatalf("Split with %+v = %v", c, code)
	}
	return x
}

func zeros(t testing.TB, p api.Prog) api.Env {
	t.Helper()
	e, code := env.Zero(p)
	if code != api.OK {
		t.Fatalf("Zero = %v", code)
	}
	return e
}

func top(t testing.TB, p api.Prog) api.Env {
	t.Helper()
	e, code := env.Top(p)
	if code != api.OK {
		t.Fatalf("Top = %v", code)
	}
	return e
}

// tops is the table of all stores.
func tops(t testing.TB, p api.Prog, c api.Config) api.Table {
	t.Helper()
	return filled(len(mustSplit(t, p, c).Verts), top(t, p))
}

// ahead is the table of the forward pass from a start, without a limit.
func ahead(t testing.TB, p api.Prog, c api.Config, start api.Env) api.Table {
	t.Helper()
	u, _, code := fwd.Run(p, c, start, nil)
	if code != api.OK {
		t.Fatalf("fwd.Run with %+v from %v = %v", c, start, code)
	}
	return u
}

// passed is the table of the pass from a site.
func passed(t testing.TB, p api.Prog, c api.Config, u api.Table, site int) api.Table {
	t.Helper()
	b, _, code := Run(p, c, u, site)
	if code != api.OK {
		t.Fatalf("P23.1: Run with %+v within %v from %d = %v", c, u, site, code)
	}
	return b
}

func lost() api.Env { return api.Env{Dead: true} }

// vars is an Env of scalars alone.
func vars(list ...api.Num) api.Env { return api.Env{Vars: list} }

// both is an Env of scalars and arrays.
func both(vars, arrays []api.Num) api.Env { return api.Env{Vars: vars, Arrays: arrays} }

func list(l ...api.Num) []api.Num { return l }

func in(lo, hi int64) api.Num { return num.Range(lo, hi) }

func is(v int64) api.Num { return num.Const(v) }

func from(v int64) api.Num { return num.Range(v, math.MaxInt64) }

func upTo(v int64) api.Num { return num.Range(math.MinInt64, v) }

// raw is a Num as it is written, which need not be in its normal form.
func raw(lo, hi int64, m, r uint64) api.Num {
	return api.Num{I: api.Ival{Lo: lo, Hi: hi}, C: api.Cong{M: m, R: r}}
}

// tell is an Env's text: all of its fields, so that nothing but nil and empty is alike.
func tell(e api.Env) string {
	return fmt.Sprint(e.Dead, len(e.Vars), e.Vars, len(e.Arrays), e.Arrays)
}

func tellTable(t api.Table) string {
	var words []string
	for _, e := range t {
		words = append(words, tell(e))
	}
	return strings.Join(words, "; ")
}

// filled is a table of so many Envs, all alike, each in memory of its own.
func filled(number int, e api.Env) api.Table {
	t := api.Table{}
	for range number {
		t = append(t, copied(e))
	}
	return t
}

func copied(e api.Env) api.Env {
	return api.Env{Dead: e.Dead, Vars: append([]api.Num(nil), e.Vars...), Arrays: append([]api.Num(nil), e.Arrays...)}
}

// except is a table with e at one place.
func except(t api.Table, place int, e api.Env) api.Table {
	u := append(api.Table(nil), t...)
	u[place] = e
	return u
}

// wantRun holds an answer of Run, to the letter.
func wantRun(t testing.TB, p api.Prog, c api.Config, u api.Table, site int, want api.Table, applications int) {
	t.Helper()
	got, number, code := Run(p, c, u, site)
	if code != api.OK || len(got) != len(want) || tellTable(got) != tellTable(want) || number != applications {
		t.Errorf("P23.1: Run with %+v within %v from %d = %v, %d, %v, want %v, %d", c, u, site, got, number, code, want, applications)
	}
}

// The chapter's example 1: one Seed and one Pre in each of two sweeps, and in the narrowing.
func TestExampleOfAnAssert(t *testing.T) {
	p := mustText(t, short)
	u := ahead(t, p, plain(), zeros(t, p))
	if want := (api.Table{vars(is(0)), vars(num.Top()), vars(from(1))}); tellTable(u) != tellTable(want) {
		t.Fatalf("the forward pass' table is %v, want %v", u, want)
	}
	want := api.Table{vars(is(0)), vars(upTo(0)), lost()}
	wantRun(t, p, plain(), u, 0, want, 6)
	wantRun(t, p, api.Config{Cap: 6}, u, 0, want, 4)
	wantRun(t, p, api.Config{Cap: 6, Narrow: 3}, u, 0, want, 6)
}

// The chapter's example 2: the Seed is an application for all that it tells nothing.
func TestExampleOfNoFault(t *testing.T) {
	p := mustText(t, never)
	u := ahead(t, p, plain(), zeros(t, p))
	wantRun(t, p, plain(), u, 0, filled(3, lost()), 2)
	wantRun(t, p, api.Config{Cap: 6}, u, 0, filled(3, lost()), 1)
}

// The chapter's example 3.
func TestExampleOfDeadEnvs(t *testing.T) {
	for _, text := range []string{short, never, seven, loop, nested, everything} {
		p := mustText(t, text)
		none := filled(len(mustSplit(t, p, plain()).Verts), lost())
		for site := range p.Sites {
			wantRun(t, p, plain(), none, site, none, 0)
		}
	}
	for _, text := range []string{short, never, seven} {
		p := mustText(t, text)
		u := ahead(t, p, plain(), zeros(t, p))
		wantNoRun(t, p, plain(), u, 1, api.ErrSite)
		wantNoRun(t, p, plain(), u, -1, api.ErrSite)
	}
}

// The chapter's example 4: sweeps of 3, 5 (the head leaps, and the entry comes to life), 5 and 5; U is the same.
func TestExampleOfALoop(t *testing.T) {
	p := mustText(t, seven)
	u := ahead(t, p, plain(), zeros(t, p))
	want := api.Table{vars(is(0), is(0)), vars(in(0, 5), is(7)), vars(in(0, 4), is(7)), vars(from(5), is(7)), lost()}
	wantRun(t, p, plain(), u, 0, want, 23)
	wantRun(t, p, api.Config{Cap: 6}, u, 0, want, 18)
}
