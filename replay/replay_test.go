package replay

import (
	"fmt"
	"math"
	"slices"
	"strings"
	"testing"

	"winnow/api"
	"winnow/bwd"
	"winnow/check"
	"winnow/env"
	"winnow/fwd"
	"winnow/interp"
	"winnow/num"
	"winnow/part"
)

// nine is the chapter's program: three nodes in a row, and one site.
const nine = "var x; input x; assert x != 9;"

// endless reads for ever: each second step is an input.
const endless = "var x; while true { input x; }"

// loop has nodes that are told apart by Unroll and by Hist, and merged by a small Cap; inputs stand ahead of, in and behind its loop.
const loop = "var x; array a[2]; var y; input x; if x < 0 { x := 1; input y; } else { skip; } while x < 4 { a[x % 2] := y; x := x + 1; input y; } assert y != 6; input x; x := y / x;"

// nested has inputs in a loop in a loop.
const nested = "var x; var y; var z; while x < 3 { y := 0; input z; while y < x { y := y + 1; input z; assert z != 5; } x := x + 1; } input y; assert y != z;"

// everything is a program that has each kind of edge, and each kind of node.
const everything = "var x; array a[2]; var y; x := 1; a[x] := 3 / (y + 1); input y; assert a[0] < 4 && !(x == y); skip; " +
	"if x < y || false { skip; } else { y := x % 2; } while x < 2 { x := x + 1; if y < 0 { } while y < 3 { input y; } }"

// plain is the configuration of the chapter's examples.
func plain() api.Config { return api.Config{Cap: 1, Fuel: 9, Tries: 4} }

func mustText(t testing.TB, text string) api.Prog {
	t.Helper()
	p, err := check.Text(text)
	if err != nil {
		t.Fatalf("Text(%q) is refused: %v", text, err)
	}
	return p
}

func mustSplit(t testing.TB, p api.Prog, c api.Config) api.Part {
	t.Helper()
	x, code := part.Split(p, c)
	if code != api.OK {
		t.Fatalf("Split with %+v = %v", c, code)
	}
	return x
}

// mustEnv is an Env that isn't refused.
func mustEnv(t testing.TB, of func(p api.Prog) (api.Env, api.Errno), p api.Prog) api.Env {
	t.Helper()
	e, code := of(p)
	if code != api.OK {
		t.Fatalf("an Env is refused: %v", code)
	}
	return e
}

// tops is the table of all stores.
func tops(t testing.TB, p api.Prog, c api.Config) api.Table {
	t.Helper()
	return filled(len(mustSplit(t, p, c).Verts), mustEnv(t, env.Top, p))
}

// ahead is the table of the forward pass from zeros.
func ahead(t testing.TB, p api.Prog, c api.Config) api.Table {
	t.Helper()
	u, _, code := fwd.Run(p, c, mustEnv(t, env.Zero, p), nil)
	if code != api.OK {
		t.Fatalf("fwd.Run with %+v = %v", c, code)
	}
	return u
}

// back is the table of the backward pass from a site within a table.
func back(t testing.TB, p api.Prog, c api.Config, u api.Table, site int) api.Table {
	t.Helper()
	b, _, code := bwd.Run(p, c, u, site)
	if code != api.OK {
		t.Fatalf("bwd.Run with %+v within %v from %d = %v", c, u, site, code)
	}
	return b
}

func lost() api.Env { return api.Env{Dead: true} }

// vars is an Env of scalars alone.
func vars(list ...api.Num) api.Env { return api.Env{Vars: list} }

// both is an Env of scalars and arrays.
func both(vars, arrays []api.Num) api.Env { return api.Env{Vars: vars, Arrays: arrays} }

func list(l ...api.Num) []api.Num { return l }

func in(lo, hi int64) api.Num { return num.Range(lo, hi) }

func is(v int64) api.Num { return num.Const(v) }

// raw is a Num as it is written, which need not be in its normal form.
func raw(lo, hi int64, m, r uint64) api.Num {
	return api.Num{I: api.Ival{Lo: lo, Hi: hi}, C: api.Cong{M: m, R: r}}
}

// filled is a table of so many Envs, all alike, each in memory of its own.
func filled(number int, e api.Env) api.Table {
	t := api.Table{}
	for range number {
		t = append(t, copied(e))
	}
	return t
}

func copied(e api.Env) api.Env {
	return api.Env{Dead: e.Dead, Vars: slices.Clone(e.Vars), Arrays: slices.Clone(e.Arrays)}
}

// except is a table with e at one place.
func except(t api.Table, place int, e api.Env) api.Table {
	u := slices.Clone(t)
	u[place] = e
	return u
}

// wantPick holds an answer of Pick.
func wantPick(t testing.TB, a api.Num, try int, want int64, some bool) {
	t.Helper()
	if v, ok := Pick(a, try); v != want || ok != some {
		t.Errorf("P24.1: Pick(%v, %d) = %d, %v, want %d, %v", a, try, v, ok, want, some)
	}
}

// wantTape holds an answer of Tape.
func wantTape(t testing.TB, p api.Prog, c api.Config, u api.Table, try int, want ...int64) {
	t.Helper()
	if tape, code := Tape(p, c, u, try); code != api.OK || !slices.Equal(tape, want) {
		t.Errorf("P24.2: Tape with %+v by %v, try %d = %v, %v, want %v", c, u, try, tape, code, want)
	}
}

// wantFound holds that Find answers this tape.
func wantFound(t testing.TB, p api.Prog, c api.Config, u api.Table, site, steps int, want ...int64) {
	t.Helper()
	tape, n, ok, code := Find(p, c, u, site)
	if code != api.OK || !ok || n != steps || !slices.Equal(tape, want) {
		t.Errorf("P24.3: Find with %+v by %v, site %d = %v, %d, %v, %v, want %v, %d", c, u, site, tape, n, ok, code, want, steps)
		return
	}
	wantFaults(t, p, c, site, tape, n)
}

// wantNone holds that Find answers that no try faults at the site.
func wantNone(t testing.TB, p api.Prog, c api.Config, u api.Table, site int) {
	t.Helper()
	if tape, n, ok, code := Find(p, c, u, site); code != api.OK || ok || n != 0 || len(tape) != 0 {
		t.Errorf("P24.3: Find with %+v by %v, site %d = %v, %d, %v, %v, want none", c, u, site, tape, n, ok, code)
	}
}

// wantFaults holds what P24.4 says of a tape that was found: with the fuel, with greater ones and with just enough the run faults so, with less it doesn't.
func wantFaults(t testing.TB, p api.Prog, c api.Config, site int, tape []int64, steps int) {
	t.Helper()
	want := api.Outcome{Kind: api.Faulted, Site: site, Steps: steps, Reads: len(tape)}
	for _, fuel := range []int{steps, steps + 1, c.Fuel, c.Fuel + 1, 2 * c.Fuel, api.MaxFuel - 1, api.MaxFuel} {
		fuel = min(max(fuel, steps), api.MaxFuel)
		if out, _, code := interp.Run(p, tape, fuel); code != api.OK || out != want {
			t.Errorf("P24.4: the run on %v with the fuel %d is %+v, %v, want %+v", tape, fuel, out, code, want)
		}
	}
	if steps > c.Fuel {
		t.Errorf("P24.4: %d steps are more than the fuel %d", steps, c.Fuel)
	}
	for _, fuel := range []int{0, steps / 2, steps - 1} {
		if out, _, code := interp.Run(p, tape, fuel); code != api.OK || out.Kind != api.OutOfFuel {
			t.Errorf("P24.4: the run on %v with the fuel %d is %+v, %v", tape, fuel, out, code)
		}
	}
}

// tell is a table's text: all of its fields, so that nothing but nil and empty is alike.
func tell(t api.Table) string {
	var words []string
	for _, e := range t {
		words = append(words, fmt.Sprint(e.Dead, len(e.Vars), e.Vars, len(e.Arrays), e.Arrays))
	}
	return strings.Join(words, "; ")
}

// The chapter's example 1.
func TestExamplesOfPick(t *testing.T) {
	for _, row := range []struct {
		a    api.Num
		want [api.MaxTries]int64
	}{
		{in(-3, 9), [...]int64{0, -3, 9, 3}},
		{raw(4, 9, 3, 1), [...]int64{4, 4, 7, 7}},
		{in(-5, -2), [...]int64{-2, -5, -2, -4}},
		{num.Top(), [...]int64{0, math.MinInt64, math.MaxInt64, -1}},
	} {
		for try, want := range row.want {
			wantPick(t, row.a, try, want, true)
		}
		wantPick(t, row.a, 4, 0, false)
	}
	for try := range api.MaxTries {
		wantPick(t, num.Bot(), try, 0, false)
	}
}

// The chapter's example 2.
func TestExampleOfAnAssert(t *testing.T) {
	p := mustText(t, nine)
	any := api.Table{vars(is(0)), vars(num.Top()), vars(num.Top())}
	for try, want := range []int64{0, math.MinInt64, math.MaxInt64, -1} {
		wantTape(t, p, plain(), any, try, want)
	}
	wantNone(t, p, plain(), any, 0)
	just := except(any, 1, vars(is(9)))
	for try := range api.MaxTries {
		wantTape(t, p, plain(), just, try, 9)
	}
	wantFound(t, p, plain(), just, 0, 2, 9)
}

// The chapter's example 3.
func TestExampleOfALoop(t *testing.T) {
	p := mustText(t, endless)
	c := plain()
	c.Fuel = 5
	u := tops(t, p, c)
	wantTape(t, p, c, u, 0, 0, 0)
	wantTape(t, p, c, u, 3, -1, -1)
	p = mustText(t, "var x; var y; while true { input x; input y; }")
	u = filled(len(mustSplit(t, p, c).Verts), vars(in(2, 5), in(-8, 7)))
	wantTape(t, p, c, u, 1, 2, -8, 2)
	wantTape(t, p, c, u, 2, 5, 7, 5)
}

// The chapter's example 4.
func TestExamplesOfRefusals(t *testing.T) {
	p := mustText(t, nine)
	for tries := range api.MaxTries + 1 {
		c := plain()
		c.Tries = tries
		if tape, code := Tape(p, c, tops(t, p, c), tries); code != api.ErrArg || tape != nil {
			t.Errorf("P24.2: Tape with %d tries, try %d = %v, %v", tries, tries, tape, code)
		}
	}
	if tape, n, ok, code := Find(p, plain(), tops(t, p, plain()), 1); code != api.ErrArg || tape != nil || n != 0 || ok {
		t.Errorf("P24.3: Find of the site 1 = %v, %d, %v, %v", tape, n, ok, code)
	}
}

// DOC.md's examples 1, 3 and 7 of the whole, as far as tries go.
func TestExamplesOfTheWhole(t *testing.T) {
	c := api.Config{Cap: 1, Fuel: 9, Tries: 1}
	p := mustText(t, "var x; input x; assert x > 0;")
	wantFound(t, p, c, ahead(t, p, c), 0, 2, 0)
	c.Tries = 0
	wantNone(t, p, c, ahead(t, p, c), 0)
	c.Tries = 1
	p = mustText(t, "var x; input x; assert x != 7 || false;")
	wantNone(t, p, c, ahead(t, p, c), 0)
	wantFound(t, p, c, back(t, p, c, ahead(t, p, c), 0), 0, 2, 7)
	p = mustText(t, "var x; x := 1 / x;")
	wantFound(t, p, c, ahead(t, p, c), 0, 1)
}
