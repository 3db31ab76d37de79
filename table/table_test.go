package table

import (
	"fmt"
	"math"
	"strings"
	"testing"

	"winnow/api"
	"winnow/check"
	"winnow/env"
	"winnow/num"
	"winnow/part"
)

// short is the chapter's program P: three nodes in a row.
const short = "var x; input x; assert x > 0;"

// loop has nodes that are told apart by Unroll and by Hist, and merged by a small Cap.
const loop = "var x; array a[2]; var y; input x; if x < 0 { x := 1; } else { skip; } while x < 4 { a[x % 2] := y; x := x + 1; input y; }"

// everything is a program that has each kind of edge, and each kind of node.
const everything = "var x; array a[2]; var y; x := -1; a[x] := 3 / y; input y; assert a[0] < 4 && !(x == y); skip; " +
	"if x < y || false { skip; } else { y := x % 2; } while x < 2 { x := x + 1; if y < 0 { } while y < 3 { input y; } }"

// one is a configuration that tells nothing apart.
func one() api.Config { return api.Config{Cap: 1, Fuel: 9} }

func mustText(t testing.TB, text string) api.Prog {
	t.Helper()
	p, err := check.Text(text)
	if err != nil {
		t.Fatalf("Text(%q) is refused: %v", text, err)
	}
	return p
}

func mustSplit(t testing.TB, p api.Prog, c api.Config) api.Part {
	t.Helper()
	x, code := part.Split(p, c)
	if code != api.OK {
		t.Fatalf("Split with %+v = %v", c, code)
	}
	return x
}

func mustDead(t testing.TB, p api.Prog, c api.Config) api.Table {
	t.Helper()
	d, code := Dead(p, c)
	if code != api.OK {
		t.Fatalf("P21.1: Dead with %+v = %v", c, code)
	}
	return d
}

func lost() api.Env { return api.Env{Dead: true} }

// vars is an Env of scalars alone.
func vars(list ...api.Num) api.Env { return api.Env{Vars: list} }

// both is an Env of scalars and arrays.
func both(vars, arrays []api.Num) api.Env { return api.Env{Vars: vars, Arrays: arrays} }

func list(l ...api.Num) []api.Num { return l }

func in(lo, hi int64) api.Num { return num.Range(lo, hi) }

func is(v int64) api.Num { return num.Const(v) }

// raw is a Num as it is written, which need not be in its normal form.
func raw(lo, hi int64, m, r uint64) api.Num {
	return api.Num{I: api.Ival{Lo: lo, Hi: hi}, C: api.Cong{M: m, R: r}}
}

func above(v int64) api.Num { return num.Range(v+1, math.MaxInt64) }

// tell is an Env's text: all of its fields, so that nothing but nil and empty is alike.
func tell(e api.Env) string {
	return fmt.Sprint(e.Dead, len(e.Vars), e.Vars, len(e.Arrays), e.Arrays)
}

func tellTable(t api.Table) string {
	var words []string
	for _, e := range t {
		words = append(words, tell(e))
	}
	return strings.Join(words, "; ")
}

// filled is a table of so many Envs, all alike, each in memory of its own.
func filled(number int, e api.Env) api.Table {
	t := api.Table{}
	for range number {
		t = append(t, copied(e))
	}
	return t
}

func copied(e api.Env) api.Env {
	return api.Env{Dead: e.Dead, Vars: append([]api.Num(nil), e.Vars...), Arrays: append([]api.Num(nil), e.Arrays...)}
}

// except is a table with e at one place.
func except(t api.Table, place int, e api.Env) api.Table {
	u := append(api.Table(nil), t...)
	u[place] = e
	return u
}

// wantFits holds an answer of Fits.
func wantFits(t *testing.T, p api.Prog, c api.Config, u api.Table, want bool) {
	t.Helper()
	if got := Fits(p, c, u); got != want {
		t.Errorf("P21.2: Fits with %+v of %d Envs %v = %v", c, len(u), u, got)
	}
}

// wantMeet holds an answer of Meet, which is in normal form.
func wantMeet(t *testing.T, a, b, want api.Table) {
	t.Helper()
	got, code := Meet(a, b)
	if code != api.OK || tellTable(got) != tellTable(want) || len(got) != len(want) {
		t.Errorf("P21.3: Meet(%v, %v) = %v, %v, want %v", a, b, got, code, want)
	}
}

// wantNoMeet holds the refusal of Meet, either way.
func wantNoMeet(t *testing.T, a, b api.Table) {
	t.Helper()
	for range 2 {
		if got, code := Meet(a, b); code != api.ErrArg || got != nil {
			t.Errorf("P21.3: Meet(%v, %v) = %v, %v, want no Envs and ErrArg", a, b, got, code)
		}
		a, b = b, a
	}
}

// wantOrder holds the answers of Leq, both ways, and of Same.
func wantOrder(t *testing.T, a, b api.Table, below, over bool) {
	t.Helper()
	if got := Leq(a, b); got != below {
		t.Errorf("P21.3: Leq(%v, %v) = %v", a, b, got)
	}
	if got := Leq(b, a); got != over {
		t.Errorf("P21.3: Leq(%v, %v) = %v", b, a, got)
	}
	for range 2 {
		if got := Same(a, b); got != (below && over) {
			t.Errorf("P21.3: Same(%v, %v) = %v", a, b, got)
		}
		a, b = b, a
	}
}

// The chapter's example 1.
func TestExamplesOfDeadAndFits(t *testing.T) {
	p := mustText(t, short)
	d := mustDead(t, p, one())
	if tellTable(d) != tellTable(api.Table{lost(), lost(), lost()}) {
		t.Errorf("P21.1: Dead = %v", d)
	}
	wantFits(t, p, one(), d, true)
	wantFits(t, p, one(), d[:2], false)
	wantFits(t, p, one(), filled(2, vars(is(0))), false)
	wantFits(t, p, one(), filled(3, vars(is(0), is(0))), false)
}

// The chapter's example 2.
func TestExamplesOfOrderAndMeet(t *testing.T) {
	wantOrder(t, nil, nil, true, true)
	wantOrder(t, api.Table{}, nil, true, true)
	wantOrder(t, api.Table{lost()}, api.Table{}, false, false)
	wantNoMeet(t, api.Table{lost()}, api.Table{})
	wantMeet(t, api.Table{vars(in(0, 5))}, api.Table{vars(in(3, 9))}, api.Table{vars(in(3, 5))})
}

// P21.1, P21.2: parts with one vertex.
func TestOneVertex(t *testing.T) {
	for _, text := range []string{"", "var x;", "var x; array a[3]; var y;"} {
		for _, c := range corners() {
			p := mustText(t, text)
			d := mustDead(t, p, c)
			if tellTable(d) != tellTable(api.Table{lost()}) {
				t.Errorf("P21.1: Dead(%q, %+v) = %v", text, c, d)
			}
			wantFits(t, p, c, d, true)
			zeros, _ := env.Zero(p)
			wantFits(t, p, c, api.Table{zeros}, true)
			wantFits(t, p, c, api.Table{}, false)
			wantFits(t, p, c, nil, false)
			wantFits(t, p, c, api.Table{zeros, zeros}, false)
		}
	}
	if d := mustDead(t, api.Prog{}, one()); tellTable(d) != tellTable(api.Table{lost()}) {
		t.Errorf("P21.1: Dead of the zero Prog = %v", d)
	}
}

// P21.1: a node with several vertices has as many Envs; a merged one has one.
func TestDeadOfParts(t *testing.T) {
	p := mustText(t, loop)
	for _, row := range []struct {
		c      api.Config
		number int
	}{
		{api.Config{Cap: 1}, 9},                      // one vertex a node
		{api.Config{Hist: 1, Cap: 2}, 14},            // the five nodes from the while on have two each
		{api.Config{Unroll: 2, Cap: 3}, 14},          // the while has three, each of the three in its body two
		{api.Config{Hist: 1, Unroll: 2, Cap: 6}, 24}, // and with either decision
		{api.Config{Hist: 1, Unroll: 2, Cap: 5}, 9},  // the while is merged
		{api.Config{Unroll: 3, Cap: 3}, 9},
		{api.Config{Hist: 3, Unroll: 3, Cap: 1}, 9},
	} {
		d := mustDead(t, p, row.c)
		if tellTable(d) != tellTable(filled(row.number, lost())) {
			t.Errorf("P21.1: Dead with %+v has %d Envs: %v, want %d", row.c, len(d), d, row.number)
		}
		if x := mustSplit(t, p, row.c); len(x.Verts) != row.number {
			t.Errorf("Split with %+v has %d vertices", row.c, len(x.Verts))
		}
	}
}

// P21.1, P21.2: what Dead answers fits, whatever the part; one more and one less doesn't.
func TestDeadFits(t *testing.T) {
	merged, several := 0, 0
	for _, text := range []string{"", "skip;", short, loop, everything} {
		p := mustText(t, text)
		top, _ := env.Top(p)
		for _, c := range corners() {
			d, x := mustDead(t, p, c), mustSplit(t, p, c)
			if tellTable(d) != tellTable(filled(len(x.Verts), lost())) {
				t.Fatalf("P21.1: Dead(%q, %+v) = %v, want %d Envs", text, c, d, len(x.Verts))
			}
			wantFits(t, p, c, d, true)
			wantFits(t, p, c, d[1:], false)
			wantFits(t, p, c, append(d[:len(d):len(d)], lost()), false)
			wantFits(t, p, c, filled(len(d), top), true)
			wantFits(t, p, c, filled(len(d)-1, top), false)
			wantFits(t, p, c, filled(len(d)+1, top), false)
			wantFits(t, p, c, nil, false)
			wantFits(t, p, c, api.Table{}, false)
			merged += min(len(x.Merged), 1)
			if len(x.Merged) == 0 && len(x.Verts) > x.Verts[len(x.Verts)-1].Node+1 {
				several++
			}
		}
	}
	if merged < 5 || several < 5 {
		t.Errorf("the parts are too much alike: %d with merged nodes, %d with several vertices a node", merged, several)
	}
}

// unfit are Envs that don't fit a program with two scalars and an array.
func unfit() []api.Env {
	return []api.Env{
		{},
		vars(is(0), is(0)),
		both(nil, list(is(0))),
		both(list(is(0)), list(is(0))),
		both(list(is(0), is(0), is(0)), list(is(0))),
		both(list(is(0), is(0)), list(is(0), is(0))),
		both(list(is(0)), list(is(0), is(0))),
		both(list(is(0)), nil),
		both(list(num.Bot()), list(num.Bot())), // its normal form is dead, but as it is handed in it doesn't fit
	}
}

// fit are Envs that do, dead and live, in their normal form or not.
func fit() []api.Env {
	return []api.Env{
		lost(),
		{Dead: true, Vars: list(is(1))},
		{Dead: true, Vars: list(is(1), is(2), is(3), is(4)), Arrays: list(is(1), is(2))},
		{Dead: true, Vars: list(is(1), is(2)), Arrays: list(is(1))},
		both(list(is(0), is(0)), list(is(0))),
		both(list(num.Top(), in(0, 4)), list(num.Top())),
		both(list(num.Bot(), is(0)), list(is(0))),
		both(list(raw(5, 3, 1, 0), raw(1, 9, 4, 9)), list(raw(0, 0, 0, 7))),
		both(list(api.Num{}, api.Num{}), list(api.Num{})),
	}
}

// P21.2: each way in which an Env fits or doesn't, at the first, a middle and the last place.
func TestFitsAtEachPlace(t *testing.T) {
	p := mustText(t, loop)
	for _, c := range corners() {
		number := len(mustSplit(t, p, c).Verts)
		for _, base := range fit() {
			whole := filled(number, base)
			wantFits(t, p, c, whole, true)
			for _, place := range []int{0, number / 2, number - 1} {
				for _, e := range fit() {
					wantFits(t, p, c, except(whole, place, e), true)
				}
				for _, e := range unfit() {
					wantFits(t, p, c, except(whole, place, e), false)
				}
			}
		}
	}
}

// P21.2: a table of one program or configuration fits another one if it has as many Envs of that shape, and else not.
func TestFitsAnotherProgram(t *testing.T) {
	p := mustText(t, short)
	top, _ := env.Top(p)
	for _, row := range []struct {
		text string
		want bool
	}{
		{"var y; skip; skip;", true}, {"var y; skip;", false}, {"array a[1]; skip; skip;", false},
		{"var x; var y; input x; assert x > 0;", false}, {"skip; skip;", false},
	} {
		wantFits(t, mustText(t, row.text), one(), filled(3, top), row.want)
		wantFits(t, mustText(t, row.text), one(), mustDead(t, p, one()), row.want || row.text != "var y; skip;")
	}
	q := mustText(t, "var x; while x < 3 { x := x + 1; }")
	for most, unroll := range []int{0, 1, 2, 3} {
		c := api.Config{Unroll: unroll, Cap: most + 1}
		for other := range 4 {
			wantFits(t, q, api.Config{Unroll: other, Cap: 4}, filled(len(mustSplit(t, q, c).Verts), top), unroll == other)
		}
	}
}

// P21.3: lists of unlike lengths.
func TestUnlikeLengths(t *testing.T) {
	lists := []api.Table{nil, {lost()}, {lost(), lost()}, {vars(in(0, 5)), vars(), lost()}, filled(7, vars(is(2)))}
	for i, a := range lists {
		for j, b := range lists {
			if i != j {
				wantOrder(t, a, b, false, false)
				wantNoMeet(t, a, b)
			}
		}
	}
	wantMeet(t, nil, nil, nil)
	wantMeet(t, api.Table{}, nil, nil)
	a := api.Table{vars(is(2)), vars(is(2))}
	wantOrder(t, a, append(a, vars(is(2))), false, false)
	wantOrder(t, a, a[:1], false, false)
}

// P21.3: Envs of unlike shapes, beside dead ones too.
func TestUnlikeShapes(t *testing.T) {
	shapes := []api.Env{{}, vars(is(1)), vars(is(1), is(1)), both(nil, list(is(1))), both(list(is(1)), list(is(1))), both(nil, list(is(1), is(1)))}
	for i, e := range shapes {
		for j, f := range shapes {
			if i == j {
				wantOrder(t, api.Table{e}, api.Table{f}, true, true)
				wantMeet(t, api.Table{e}, api.Table{f}, api.Table{e})
				continue
			}
			wantOrder(t, api.Table{e}, api.Table{f}, false, false)
			wantMeet(t, api.Table{e, e}, api.Table{f, e}, api.Table{lost(), e})
		}
		wantOrder(t, api.Table{lost()}, api.Table{e}, true, false)
		wantMeet(t, api.Table{lost()}, api.Table{e}, api.Table{lost()})
		wantMeet(t, api.Table{e, e}, api.Table{e, lost()}, api.Table{e, lost()})
	}
}

// P21.3: Envs that aren't in their normal form mean theirs, and answers are normal.
func TestNotNormal(t *testing.T) {
	none := []api.Env{lost(), vars(num.Bot()), vars(is(1), raw(4, 3, 1, 0)), {Dead: true, Vars: list(is(1))}, both(list(is(1)), list(raw(1, 2, 5, 4)))}
	for _, e := range none {
		for _, f := range none {
			wantOrder(t, api.Table{e}, api.Table{f}, true, true)
			wantMeet(t, api.Table{e}, api.Table{f}, api.Table{lost()})
		}
		wantOrder(t, api.Table{e}, api.Table{vars(is(1))}, true, false)
	}
	even, plain := vars(raw(1, 9, 2, 4)), vars(num.Make(api.Ival{Lo: 2, Hi: 8}, api.Cong{M: 2}))
	wantOrder(t, api.Table{even}, api.Table{plain}, true, true)
	wantOrder(t, api.Table{even}, api.Table{vars(in(2, 8))}, true, false)
	wantMeet(t, api.Table{even, even}, api.Table{even, plain}, api.Table{plain, plain})
	wantMeet(t, api.Table{even}, api.Table{vars(raw(3, 5, 1, 7))}, api.Table{vars(is(4))})
	wantMeet(t, api.Table{even}, api.Table{vars(is(5))}, api.Table{lost()})
}

// P21.3: lists that differ at the first, a middle and the last place alone.
func TestOnePlaceDiffers(t *testing.T) {
	base := vars(in(0, 5))
	for number := 1; number <= 7; number++ {
		whole := filled(number, base)
		wantOrder(t, whole, filled(number, base), true, true)
		wantMeet(t, whole, filled(number, base), whole)
		for place := range number {
			for _, row := range []struct {
				e           api.Env
				below, over bool
				met         api.Env
			}{
				{vars(in(0, 6)), true, false, base},
				{vars(in(1, 5)), false, true, vars(in(1, 5))},
				{vars(in(3, 9)), false, false, vars(in(3, 5))},
				{vars(in(6, 9)), false, false, lost()},
				{lost(), false, true, lost()},
				{vars(in(0, 5), in(0, 5)), false, false, lost()},
				{vars(raw(0, 5, 1, 3)), true, true, base},
			} {
				wantOrder(t, whole, except(whole, place, row.e), row.below, row.over)
				wantMeet(t, whole, except(whole, place, row.e), except(whole, place, row.met))
				wantMeet(t, except(whole, place, row.e), whole, except(whole, place, row.met))
			}
		}
	}
}

// P21.3: one place below and another above: neither table is below the other.
func TestPlacesDiffer(t *testing.T) {
	a, b := api.Table{vars(in(0, 5)), vars(is(3)), lost()}, api.Table{vars(in(0, 4)), vars(in(3, 4)), vars(is(1))}
	wantOrder(t, a, b, false, false)
	wantMeet(t, a, b, api.Table{vars(in(0, 4)), vars(is(3)), lost()})
	wantOrder(t, a, api.Table{vars(in(0, 7)), vars(in(3, 4)), vars(is(1))}, true, false)
}
