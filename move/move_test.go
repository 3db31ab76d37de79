package move

import (
	"math"
	"reflect"
	"slices"
	"testing"

	"winnow/api"
	"winnow/cfg"
	"winnow/check"
	"winnow/env"
	"winnow/num"
)

const (
	minInt = math.MinInt64
	maxInt = math.MaxInt64
)

// everyEdge is a program with each kind of edge; heldThere are the sites that its edges hold.
const everyEdge = "var x; array a[2]; x := 1 / x; a[x] := a[1 % x]; input x; assert a[x] > 0; skip;" +
	"if a[0] == 1 { skip; } else { x := 3; } while x / 2 > 3 && a[1] < 4 { x := x - 1; }"

func heldThere() [][]int {
	return [][]int{{0}, {1, 2, 3}, {}, {4, 5}, {}, {6}, {6}, {}, {}, {7, 8}, {7, 8}, {}}
}

// variables are what the statements of most tests are of.
const variables = "var x; var y; array a[1]; array b[3]; "

// nu is a Num as it is written, in its normal form or not.
func nu(lo, hi int64, m, r uint64) api.Num {
	return api.Num{I: api.Ival{Lo: lo, Hi: hi}, C: api.Cong{M: m, R: r}}
}

// in is the numbers from lo to hi, which aren't one alone.
func in(lo, hi int64) api.Num { return nu(lo, hi, 1, 0) }

func one(v int64) api.Num { return nu(v, v, 0, uint64(v)) }

func no() api.Num { return api.Num{Bot: true} }

func all() api.Num { return in(minInt, maxInt) }

func upTo(v int64) api.Num { return in(minInt, v) }

func from(v int64) api.Num { return in(v, maxInt) }

// nones are Nums without numbers, in several forms.
func nones() []api.Num {
	return []api.Num{no(), {Bot: true, I: api.Ival{Lo: 0, Hi: 9}, C: api.Cong{M: 1}}, in(3, 2), nu(1, 3, 4, 0), nu(1, 3, 0, 7), nu(maxInt, minInt, 0, 0)}
}

func list(l ...api.Num) []api.Num { return l }

func both(vars, arrays []api.Num) api.Env { return api.Env{Vars: vars, Arrays: arrays} }

// of is an Env of all variables.
func of(x, y, a, b api.Num) api.Env { return both(list(x, y), list(a, b)) }

// xy is an Env of all variables in which the arrays are any.
func xy(x, y api.Num) api.Env { return of(x, y, all(), all()) }

func lost() api.Env { return api.Env{Dead: true} }

func sites(l ...int) []int { return l }

func mustText(t testing.TB, text string) api.Prog {
	t.Helper()
	p, err := check.Text(text)
	if err != nil {
		t.Fatalf("Text(%q) is refused: %v", text, err)
	}
	return p
}

func edgesOf(t testing.TB, p api.Prog) []api.Edge {
	t.Helper()
	g, code := cfg.Lower(p)
	if code != api.OK {
		t.Fatalf("Lower(%v) is refused: %v", p, code)
	}
	return g.Edges
}

// alike tells whether an answer is just the wanted Env, which is in its normal form; env.Same would take another form of it too.
func alike(got, wanted api.Env) bool {
	return got.Dead == wanted.Dead && slices.Equal(got.Vars, wanted.Vars) && slices.Equal(got.Arrays, wanted.Arrays)
}

func isZero(e api.Env) bool { return reflect.DeepEqual(e, api.Env{}) }

func wantPost(t *testing.T, p api.Prog, edge int, e, wanted api.Env, told ...int) {
	t.Helper()
	if got, sites, code := Post(p, edge, e); !alike(got, wanted) || !slices.Equal(sites, told) || code != api.OK {
		t.Errorf("P18.1: Post along %d of %v = %v, %v, %v, want %v, %v", edge, e, got, sites, code, wanted, told)
	}
}

func wantPre(t *testing.T, p api.Prog, edge int, before, after, wanted api.Env) {
	t.Helper()
	if got, code := Pre(p, edge, before, after); !alike(got, wanted) || code != api.OK {
		t.Errorf("P18.2: Pre along %d of %v and %v = %v, %v, want %v", edge, before, after, got, code, wanted)
	}
}

func wantSeed(t *testing.T, p api.Prog, edge int, before api.Env, site int, wanted api.Env) {
	t.Helper()
	if got, code := Seed(p, edge, before, site); !alike(got, wanted) || code != api.OK {
		t.Errorf("P18.3: Seed along %d of %v at %d = %v, %v, want %v", edge, before, site, got, code, wanted)
	}
}

func wantHolds(t *testing.T, p api.Prog, edge int, wanted ...int) {
	t.Helper()
	if got := Holds(p, edge); !slices.Equal(got, wanted) {
		t.Errorf("P18.4: Holds of %d = %v, want %v", edge, got, wanted)
	}
}

// The following want an error, and all else to be zero.
func refusePost(t *testing.T, p api.Prog, edge int, e api.Env, wanted api.Errno) {
	t.Helper()
	if got, told, code := Post(p, edge, e); !isZero(got) || len(told) != 0 || code != wanted {
		t.Errorf("P18.1: Post along %d of %v = %v, %v, %v, want %v", edge, e, got, told, code, wanted)
	}
}

func refusePre(t *testing.T, p api.Prog, edge int, before, after api.Env, wanted api.Errno) {
	t.Helper()
	if got, code := Pre(p, edge, before, after); !isZero(got) || code != wanted {
		t.Errorf("P18.2: Pre along %d of %v and %v = %v, %v, want %v", edge, before, after, got, code, wanted)
	}
}

func refuseSeed(t *testing.T, p api.Prog, edge int, before api.Env, site int, wanted api.Errno) {
	t.Helper()
	if got, code := Seed(p, edge, before, site); !isZero(got) || code != wanted {
		t.Errorf("P18.3: Seed along %d of %v at %d = %v, %v, want %v", edge, before, site, got, code, wanted)
	}
}

// refuseAll wants an error of the three that answer one, Pre's Envs being e both.
func refuseAll(t *testing.T, p api.Prog, edge int, e api.Env, wanted api.Errno) {
	t.Helper()
	refusePost(t, p, edge, e, wanted)
	refusePre(t, p, edge, e, e, wanted)
	for _, site := range []int{math.MinInt, -1, 0, 1, 2, 3, 12, math.MaxInt} {
		refuseSeed(t, p, edge, e, site, wanted)
	}
}

// noEdges are numbers that no edge has.
func noEdges(t testing.TB, p api.Prog) []int {
	last := len(edgesOf(t, p))
	return []int{math.MinInt, -300, -2, -1, last, last + 1, len(p.Nodes) + last, 1 << 40, math.MaxInt}
}

const example = "var x; array a[2]; a[x] := 1 / x; assert x < 2; while x < 3 { skip; }"

// refused are Progs that check.Good refuses.
func refused(t testing.TB) []api.Prog {
	broken := func(change func(p *api.Prog)) api.Prog {
		p := mustText(t, example)
		change(&p)
		return p
	}
	return []api.Prog{
		broken(func(p *api.Prog) { p.Scalars = nil }), broken(func(p *api.Prog) { p.Arrays = nil }), broken(func(p *api.Prog) { p.Arrays[0].Len = 3 }),
		broken(func(p *api.Prog) { p.Symbols = nil }), broken(func(p *api.Prog) { p.Symbols[6] = 5 }), broken(func(p *api.Prog) { p.Symbols[2] = -1 }),
		broken(func(p *api.Prog) { p.Sites = nil }), broken(func(p *api.Prog) { p.SiteOf = p.SiteOf[:3] }), broken(func(p *api.Prog) { p.SiteOf[4] = -1 }),
		broken(func(p *api.Prog) { p.Nodes = p.Nodes[:6] }), broken(func(p *api.Prog) { p.Nodes = nil }), broken(func(p *api.Prog) { p.Nodes[6].Name = "y" }), broken(func(p *api.Prog) { p.Nodes[4].Op = api.OpLt }),
		broken(func(p *api.Prog) { p.Nodes[5].Depth = 9 }), broken(func(p *api.Prog) { p.Nodes[4].Kind = 99 }), broken(func(p *api.Prog) { p.Nodes[8].Op = -1 }), broken(func(p *api.Prog) { p.Nodes[5].Num = -1 }), broken(func(p *api.Prog) { p.Nodes[8].Op = api.OpAnd }),
		{Nodes: []api.Node{{Depth: 1, Kind: api.KNum}}, Symbols: []int{-1}, SiteOf: []int{-1}}, {Nodes: []api.Node{{Depth: 1, Kind: api.KBool}}, Symbols: []int{-1}, SiteOf: []int{-1}}, {Scalars: []string{"x"}, Arrays: []api.Array{{Name: "a", Len: 2}}}, {Sites: []int{0}},
	}
}

// misfits are Envs that don't fit the example: as they are handed in, so that a Num without numbers doesn't help.
func misfits() []api.Env {
	out := []api.Env{{}, both(list(), list())}
	for _, a := range append(nones(), one(1), all()) {
		out = append(out, both(list(a), nil), both(nil, list(a)), both(list(a, a), list(a)), both(list(a), list(a, a)), both(list(a, a), nil), both(nil, list(a, a)))
	}
	return out
}

// fitting are Envs that fit the example.
func fitting() []api.Env {
	return []api.Env{
		both(list(one(1)), list(one(1))), both(list(all()), list(all())), both(list(no()), list(one(1))), both(list(one(1)), list(in(3, 2))),
		lost(), {Dead: true, Vars: list(one(1)), Arrays: list(one(1))}, {Dead: true, Vars: list(one(1), one(2))},
	}
}

func TestPutComesAheadOfArg(t *testing.T) {
	good, bad := mustText(t, example), refused(t)
	edges := noEdges(t, good)
	for edge := range edgesOf(t, good) {
		edges = append(edges, edge)
	}
	for _, edge := range edges {
		for _, e := range misfits() {
			refuseAll(t, good, edge, e, api.ErrPut)
			for _, f := range fitting() {
				refusePre(t, good, edge, e, f, api.ErrPut)
				refusePre(t, good, edge, f, e, api.ErrPut)
			}
		}
		for _, p := range bad {
			wantHolds(t, p, edge)
			for _, e := range append(fitting(), misfits()[0], misfits()[3]) {
				refuseAll(t, p, edge, e, api.ErrPut)
				refusePre(t, p, edge, e, lost(), api.ErrPut)
				refusePre(t, p, edge, lost(), e, api.ErrPut)
			}
		}
	}
}

func TestEdgesThatAreNone(t *testing.T) {
	good := mustText(t, example)
	for _, edge := range noEdges(t, good) {
		wantHolds(t, good, edge)
		for _, e := range fitting() {
			refuseAll(t, good, edge, e, api.ErrArg)
			for _, f := range fitting() {
				refusePre(t, good, edge, e, f, api.ErrArg)
			}
		}
	}
	// Without a statement there is no edge at all.
	for _, text := range []string{"", "var x;", "array a[3];"} {
		p := mustText(t, text)
		zeros, _ := env.Zero(p)
		for edge := -2; edge < 3; edge++ {
			wantHolds(t, p, edge)
			refuseAll(t, p, edge, zeros, api.ErrArg)
			refuseAll(t, p, edge, lost(), api.ErrArg)
		}
	}
}

// An Env of a program without variables fits with nil and with empty lists.
func TestNoVariables(t *testing.T) {
	p := mustText(t, "assert 1 / 0 == 2 || 3 < 4; if 3 < 4 { skip; }")
	for _, e := range []api.Env{{}, both(list(), list()), both(nil, list())} {
		wantPost(t, p, 0, e, lost(), 1)
		wantPost(t, p, 1, e, api.Env{})
		wantPost(t, p, 2, e, lost())
		wantPost(t, p, 3, e, api.Env{})
		wantPre(t, p, 0, e, e, lost())
		wantPre(t, p, 1, e, api.Env{}, api.Env{})
		wantPre(t, p, 2, api.Env{}, e, lost())
		wantPre(t, p, 3, both(list(), nil), e, api.Env{})
		wantSeed(t, p, 0, e, 0, lost())
		wantSeed(t, p, 0, e, 1, api.Env{})
		refuseSeed(t, p, 1, e, 0, api.ErrArg)
	}
	refuseAll(t, p, 0, both(list(one(0)), nil), api.ErrPut)
}

// deadEnvs are of a scalar and an array, in several forms.
func deadEnvs() []api.Env {
	out := []api.Env{
		lost(), {Dead: true, Vars: list(), Arrays: list()}, {Dead: true, Vars: list(one(1))}, {Dead: true, Vars: list(one(1)), Arrays: list(one(3))}, {Dead: true, Vars: list(one(1), one(2), one(3)), Arrays: list(no())},
	}
	for _, a := range nones() {
		out = append(out, both(list(a), list(one(1))), both(list(one(1)), list(a)), both(list(a), list(a)))
	}
	return out
}

// Of a dead Env nothing is left and nothing faults, whatever the edge does and however sure its fault is.
func TestDeadEnvs(t *testing.T) {
	for _, text := range []string{everyEdge, "var x; array a[2]; x := 1 / 0; a[7] := a[-1]; input x; assert false; skip; if 1 / 0 < 2 { } while a[9] == 0 { }"} {
		p := mustText(t, text)
		alive := []api.Env{both(list(one(0)), list(one(0))), both(list(all()), list(all())), both(list(in(0, 1)), list(in(0, 9)))}
		for edge := range edgesOf(t, p) {
			for _, e := range deadEnvs() {
				wantPost(t, p, edge, e, lost())
				for _, f := range alive {
					wantPre(t, p, edge, e, f, lost())
					wantPre(t, p, edge, f, e, lost())
				}
				for _, f := range deadEnvs() {
					wantPre(t, p, edge, e, f, lost())
				}
				for _, site := range Holds(p, edge) {
					wantSeed(t, p, edge, e, site, lost())
				}
			}
		}
	}
}

// The chapter's examples: scalars x and y, an array a of 3.
func TestExamples(t *testing.T) {
	three := func(x, y, a api.Num) api.Env { return both(list(x, y), list(a)) }
	prog := func(text string) api.Prog { return mustText(t, "var x; var y; array a[3]; "+text) }
	assign := prog("x := y + 1;")
	wantPost(t, assign, 0, three(one(0), in(1, 5), one(0)), three(in(2, 6), in(1, 5), one(0)))
	wantPre(t, assign, 0, three(one(0), in(0, 9), one(0)), three(one(4), in(0, 9), one(0)), three(one(0), one(3), one(0)))
	store := prog("a[x] := 7;")
	wantPost(t, store, 0, three(in(1, 5), one(0), one(0)), three(in(1, 2), one(0), nu(0, 7, 7, 0)), 0)
	wantPost(t, store, 0, three(in(3, 5), one(0), one(0)), lost(), 0)
	wantSeed(t, store, 0, three(in(1, 5), one(0), one(0)), 0, three(in(3, 5), one(0), one(0)))
	wantSeed(t, store, 0, three(in(3, 5), one(0), one(0)), 0, three(in(3, 5), one(0), one(0)))
	input := prog("input x;")
	wantPost(t, input, 0, three(one(0), one(0), one(0)), three(all(), one(0), one(0)))
	wantPre(t, input, 0, three(one(5), one(0), one(0)), three(one(9), one(0), one(0)), three(one(5), one(0), one(0)))
	assert := prog("assert x < 5;")
	wantPost(t, assert, 0, three(in(3, 8), one(0), one(0)), three(in(3, 4), one(0), one(0)), 0)
	wantSeed(t, assert, 0, three(in(3, 8), one(0), one(0)), 0, three(in(5, 8), one(0), one(0)))
	loop := prog("while x < 9 && y / x > 0 { }")
	for edge := range 2 {
		wantPost(t, loop, edge, three(one(0), one(4), one(0)), lost(), 0)
		wantSeed(t, loop, edge, three(one(0), one(4), one(0)), 0, three(one(0), one(4), one(0)))
		wantHolds(t, loop, edge, 0)
	}
}

// Envs mean their normal forms, and answers are in it.
func TestOtherForms(t *testing.T) {
	for _, r := range []struct{ form, normal api.Num }{
		{nu(0, 9, 3, 5), nu(2, 8, 3, 2)}, {nu(0, 9, 0, 4), one(4)}, {api.Num{}, one(0)}, {nu(5, 5, 1, 0), one(5)}, {nu(1, 3, 4, 2), one(2)}, {nu(1, 8, 2, 0), nu(2, 8, 2, 0)}, {nu(0, 2, 5, 6), one(1)},
	} {
		p := mustText(t, variables+"x := y / x + b[a[0]]; b[x - 2] := y % b[0]; a[b[x]] := 4; input y; assert x < 7 && (x != y || b[0] >= 2); skip; while b[x] / y < 3 { }")
		for _, other := range []api.Num{in(0, 9), one(3), all()} {
			forms := []api.Env{of(r.form, other, other, other), of(other, r.form, other, other), of(other, other, r.form, other), of(other, other, other, r.form), of(r.form, r.form, r.form, r.form)}
			for _, e := range forms {
				holdForm(t, p, e, env.Norm(e), of(other, all(), other, all()))
			}
		}
		// Where nothing is cut the Env is answered in its normal form.
		form, normal := of(r.form, r.form, r.form, r.form), of(r.normal, r.normal, r.normal, r.normal)
		q := mustText(t, variables+"skip; assert true; x := 3; a[0] := 3; b[0] := b[0]; if true { } input x; assert false; x := 1 / 0;")
		for edge, after := range []api.Env{normal, normal, of(one(3), r.normal, r.normal, r.normal), of(r.normal, r.normal, one(3), r.normal), normal, normal, lost(), of(all(), r.normal, r.normal, r.normal)} {
			wantPost(t, q, edge, form, after)
			if !after.Dead {
				wantPre(t, q, edge, form, after, normal)
				wantPre(t, q, edge, normal, after, normal)
			}
		}
		wantPre(t, q, 0, xy(all(), all()), form, normal)
		wantPre(t, q, 0, form, form, normal)
		wantSeed(t, q, 8, form, 4, normal)
		wantSeed(t, q, 9, form, 5, normal)
	}
}

// holdForm wants the same answers of a form of an Env as of its normal form, at all edges.
func holdForm(t *testing.T, p api.Prog, form, normal, other api.Env) {
	t.Helper()
	for edge, what := range edgesOf(t, p) {
		w := words{p, what}
		after, told := w.post(normal)
		wantPost(t, p, edge, form, after, told...)
		wantPre(t, p, edge, form, other, w.pre(normal, other))
		wantPre(t, p, edge, other, form, w.pre(other, normal))
		wantPre(t, p, edge, form, form, w.pre(normal, normal))
		for _, site := range w.holds() {
			wantSeed(t, p, edge, form, site, w.seed(normal, site))
		}
	}
}

// Which scalar or array is meant the name tells, and how long the array is its declaration.
func TestNamesTell(t *testing.T) {
	p := mustText(t, "array b[3]; var x; array a[1]; var y; array c[2]; var z; z := y; c[x] := z; input y; a[y] := x; x := c[z];")
	e := both(list(in(0, 9), in(1, 5), in(2, 3)), list(one(10), one(11), one(12)))
	wantPost(t, p, 0, e, both(list(in(0, 9), in(1, 5), in(1, 5)), e.Arrays))
	wantPost(t, p, 1, e, both(list(in(0, 1), in(1, 5), in(2, 3)), list(one(10), one(11), in(2, 12))), 0)
	wantPost(t, p, 2, e, both(list(in(0, 9), all(), in(2, 3)), e.Arrays))
	wantPost(t, p, 3, e, lost(), 1)
	wantPost(t, p, 3, env.SetVar(e, 1, in(0, 5)), both(list(in(0, 9), one(0), in(2, 3)), list(one(10), in(0, 9), one(12))), 1)
	wantPre(t, p, 0, e, env.SetVar(e, 2, one(4)), both(list(in(0, 9), one(4), in(2, 3)), e.Arrays))
	wantPre(t, p, 1, e, env.SetArray(e, 2, one(3)), both(list(in(0, 1), in(1, 5), one(3)), e.Arrays))
	wantPre(t, p, 2, e, env.SetVar(e, 1, one(77)), e)
	wantPre(t, p, 3, e, env.SetArray(e, 1, num.Const(7)), lost())
	low := env.SetVar(e, 1, in(0, 5))
	wantPre(t, p, 3, low, env.SetArray(low, 1, num.Const(7)), both(list(one(7), one(0), in(2, 3)), e.Arrays))
	wantSeed(t, p, 1, e, 0, both(list(in(2, 9), in(1, 5), in(2, 3)), e.Arrays))
	wantSeed(t, p, 3, e, 1, e)
	wantSeed(t, p, 4, e, 2, e)
}
