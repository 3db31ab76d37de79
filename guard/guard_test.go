package guard

import (
	"math"
	"reflect"
	"slices"
	"testing"

	"winnow/api"
	"winnow/check"
	"winnow/env"
)

const (
	minInt = math.MinInt64
	maxInt = math.MaxInt64
)

// everyKind is a program in which each kind of node and each operator stands.
const everyKind = "var x; array a[2]; x := 1; a[x] := -x; input x; assert !true || x < 1 && x <= 2; skip;" +
	"if x == 1 { skip; } else { x := a[0]; } while x > 3 { x := x / 2 - x % 3; } while x >= 3 || x != 4 { x := x * 2 + 1; }"

// variables are what the expressions of most tests are of; an expression or a condition stands at the place 5.
const (
	variables = "var x; var y; array a[1]; array b[3]; "
	here      = 5
)

// nu is a Num as it is written, in its normal form or not.
func nu(lo, hi int64, m, r uint64) api.Num {
	return api.Num{I: api.Ival{Lo: lo, Hi: hi}, C: api.Cong{M: m, R: r}}
}

// in is the numbers from lo to hi, which aren't one alone.
func in(lo, hi int64) api.Num { return nu(lo, hi, 1, 0) }

func one(v int64) api.Num { return nu(v, v, 0, uint64(v)) }

func no() api.Num { return api.Num{Bot: true} }

func all() api.Num { return in(minInt, maxInt) }

func upTo(v int64) api.Num { return in(minInt, v) }

func from(v int64) api.Num { return in(v, maxInt) }

// nones are Nums without numbers, in several forms.
func nones() []api.Num {
	return []api.Num{no(), {Bot: true, I: api.Ival{Lo: 0, Hi: 9}, C: api.Cong{M: 1}}, in(3, 2), nu(1, 3, 4, 0), nu(1, 3, 0, 7), nu(maxInt, minInt, 0, 0)}
}

func list(l ...api.Num) []api.Num { return l }

func both(vars, arrays []api.Num) api.Env { return api.Env{Vars: vars, Arrays: arrays} }

// of is an Env of all variables.
func of(x, y, a, b api.Num) api.Env { return both(list(x, y), list(a, b)) }

// xy is an Env of all variables in which the arrays are any.
func xy(x, y api.Num) api.Env { return of(x, y, all(), all()) }

func lost() api.Env { return api.Env{Dead: true} }

func sites(l ...int) []int { return l }

func mustText(t testing.TB, text string) api.Prog {
	t.Helper()
	p, err := check.Text(text)
	if err != nil {
		t.Fatalf("Text(%q) is refused: %v", text, err)
	}
	return p
}

// alike tells whether an answer is just the wanted Env, which is in its normal form; env.Same would take another form of it too.
func alike(got, wanted api.Env) bool {
	return got.Dead == wanted.Dead && slices.Equal(got.Vars, wanted.Vars) && slices.Equal(got.Arrays, wanted.Arrays)
}

func isZero(e api.Env) bool { return reflect.DeepEqual(e, api.Env{}) }

func wantBack(t *testing.T, p api.Prog, e api.Env, place int, c api.Num, wanted api.Env) {
	t.Helper()
	if got, code := Back(p, e, place, c); !alike(got, wanted) || code != api.OK {
		t.Errorf("P17.1: Back of %v at %d and %v = %v, %v, want %v", e, place, c, got, code, wanted)
	}
}

func wantFilter(t *testing.T, p api.Prog, e api.Env, place int, sense bool, wanted api.Env, told ...int) {
	t.Helper()
	if got, sites, code := Filter(p, e, place, sense); !alike(got, wanted) || !slices.Equal(sites, told) || code != api.OK {
		t.Errorf("P17.2: Filter of %v at %d and %v = %v, %v, %v, want %v, %v", e, place, sense, got, sites, code, wanted, told)
	}
}

// refuseBack wants an error of Back, and all else to be zero.
func refuseBack(t *testing.T, p api.Prog, e api.Env, place int, wanted api.Errno) {
	t.Helper()
	for _, c := range []api.Num{all(), one(1), no(), in(3, 2), {}} {
		if got, code := Back(p, e, place, c); !isZero(got) || code != wanted {
			t.Errorf("P17.1: Back of %v at %d and %v = %v, %v, want %v", e, place, c, got, code, wanted)
		}
	}
}

// refuseFilter wants an error of Filter, and all else to be zero.
func refuseFilter(t *testing.T, p api.Prog, e api.Env, place int, wanted api.Errno) {
	t.Helper()
	for _, sense := range []bool{true, false} {
		if got, told, code := Filter(p, e, place, sense); !isZero(got) || len(told) != 0 || code != wanted {
			t.Errorf("P17.2: Filter of %v at %d and %v = %v, %v, %v, want %v", e, place, sense, got, told, code, wanted)
		}
	}
}

func refuseBoth(t *testing.T, p api.Prog, e api.Env, place int, wanted api.Errno) {
	t.Helper()
	refuseBack(t, p, e, place, wanted)
	refuseFilter(t, p, e, place, wanted)
}

// badPlaces are places at which there can't be an expression, whatever the tree is.
func badPlaces(p api.Prog) []int {
	return []int{math.MinInt, -300, -2, -1, len(p.Nodes), len(p.Nodes) + 1, api.MaxNodes, 1 << 40, math.MaxInt}
}

// isNumber2 and isCondition2 tell sorts apart by the document's lists.
func isNumber2(n api.Node) bool {
	return slices.Contains([]api.NodeKind{api.KNum, api.KRead, api.KLoad}, n.Kind) ||
		slices.Contains([]api.Op{api.OpNeg, api.OpAdd, api.OpSub, api.OpMul, api.OpDiv, api.OpRem}, n.Op)
}

func isCondition2(n api.Node) bool {
	return n.Kind == api.KBool ||
		slices.Contains([]api.Op{api.OpNot, api.OpAnd, api.OpOr, api.OpLt, api.OpLe, api.OpGt, api.OpGe, api.OpEq, api.OpNe}, n.Op)
}

func TestPlaces(t *testing.T) {
	p := mustText(t, everyKind)
	kinds, ops := map[api.NodeKind]bool{}, map[api.Op]bool{}
	e := both(list(in(1, 9)), list(in(3, 4)))
	w := words{p}
	for place, n := range p.Nodes {
		kinds[n.Kind], ops[n.Op] = true, true
		if isNumber2(n) {
			wantBack(t, p, e, place, in(0, 3), w.back(e, place, in(0, 3)))
			wantBack(t, p, e, place, all(), w.back(e, place, all()))
			wantBack(t, p, lost(), place, all(), lost())
		} else {
			refuseBack(t, p, e, place, api.ErrArg)
			refuseBack(t, p, lost(), place, api.ErrArg)
		}
		if isCondition2(n) {
			for _, sense := range []bool{true, false} {
				left, told := w.filter(e, place, sense)
				wantFilter(t, p, e, place, sense, left, told...)
				wantFilter(t, p, lost(), place, sense, lost())
			}
		} else {
			refuseFilter(t, p, e, place, api.ErrArg)
			refuseFilter(t, p, lost(), place, api.ErrArg)
		}
	}
	if len(kinds) != int(api.KBinary)+1 || len(ops) != int(api.OpOr)+1 {
		t.Errorf("there are %d kinds and %d operators in the program", len(kinds), len(ops))
	}
	for _, place := range badPlaces(p) {
		refuseBoth(t, p, e, place, api.ErrArg)
		refuseBoth(t, p, lost(), place, api.ErrArg)
	}
}

// A tree without nodes has no place at all; and one may end with an expression.
func TestPlacesAtTheEnd(t *testing.T) {
	for place := -2; place < 3; place++ {
		refuseBoth(t, mustText(t, ""), api.Env{}, place, api.ErrArg)
		refuseBoth(t, mustText(t, ""), lost(), place, api.ErrArg)
	}
	e := both(list(in(0, 3)), nil)
	number := mustText(t, "var x; x := x;")
	wantBack(t, number, e, 2, one(3), both(list(one(3)), nil))
	refuseBoth(t, number, e, 3, api.ErrArg)
	condition := mustText(t, "var x; assert true;")
	wantFilter(t, condition, e, 2, true, e)
	refuseBoth(t, condition, e, 3, api.ErrArg)
}

const example = "var x; array a[2]; a[x] := 1 / x; assert x < 2;"

// refused are Progs that check.Good refuses.
func refused(t testing.TB) []api.Prog {
	broken := func(change func(p *api.Prog)) api.Prog {
		p := mustText(t, example)
		change(&p)
		return p
	}
	return []api.Prog{
		broken(func(p *api.Prog) { p.Scalars = nil }), broken(func(p *api.Prog) { p.Arrays = nil }), broken(func(p *api.Prog) { p.Arrays[0].Len = 3 }),
		broken(func(p *api.Prog) { p.Symbols = nil }), broken(func(p *api.Prog) { p.Symbols[6] = 5 }), broken(func(p *api.Prog) { p.Symbols[6] = -1 }),
		broken(func(p *api.Prog) { p.Sites = nil }), broken(func(p *api.Prog) { p.SiteOf = p.SiteOf[:3] }), broken(func(p *api.Prog) { p.SiteOf[4] = -1 }),
		broken(func(p *api.Prog) { p.Nodes = p.Nodes[:6] }), broken(func(p *api.Prog) { p.Nodes = nil }), broken(func(p *api.Prog) { p.Nodes[6].Name = "y" }), broken(func(p *api.Prog) { p.Nodes[4].Op = api.OpLt }),
		broken(func(p *api.Prog) { p.Nodes[5].Depth = 9 }), broken(func(p *api.Prog) { p.Nodes[4].Kind = 99 }), broken(func(p *api.Prog) { p.Nodes[8].Op = -1 }), broken(func(p *api.Prog) { p.Nodes[5].Num = -1 }), broken(func(p *api.Prog) { p.Nodes[8].Op = api.OpAnd }),
		{Nodes: []api.Node{{Depth: 1, Kind: api.KNum}}, Symbols: []int{-1}, SiteOf: []int{-1}}, {Nodes: []api.Node{{Depth: 1, Kind: api.KBool}}, Symbols: []int{-1}, SiteOf: []int{-1}}, {Scalars: []string{"x"}, Arrays: []api.Array{{Name: "a", Len: 2}}}, {Sites: []int{0}},
	}
}

// misfits are Envs that don't fit the example: as they are handed in, so that a Num without numbers doesn't help.
func misfits() []api.Env {
	out := []api.Env{{}, both(list(), list())}
	for _, a := range append(nones(), one(1), all()) {
		out = append(out, both(list(a), nil), both(nil, list(a)), both(list(a, a), list(a)), both(list(a), list(a, a)), both(list(a, a), nil), both(nil, list(a, a)))
	}
	return out
}

func TestPutComesAheadOfArg(t *testing.T) {
	good, bad := mustText(t, example), refused(t)
	fitting := []api.Env{both(list(one(1)), list(one(1))), both(list(all()), list(all())), both(list(no()), list(one(1))), lost(), {Dead: true, Vars: list(one(1)), Arrays: list(one(1))}}
	places := badPlaces(good)
	for place := range good.Nodes {
		places = append(places, place)
	}
	for _, place := range places {
		for _, e := range misfits() {
			refuseBoth(t, good, e, place, api.ErrPut)
		}
		for _, p := range bad {
			refuseBoth(t, p, misfits()[0], place, api.ErrPut)
			refuseBoth(t, p, misfits()[3], place, api.ErrPut)
			for _, e := range fitting {
				refuseBoth(t, p, e, place, api.ErrPut)
			}
		}
		for _, e := range fitting {
			if place < 0 || place >= len(good.Nodes) || !isNumber2(good.Nodes[place]) {
				refuseBack(t, good, e, place, api.ErrArg)
			}
			if place < 0 || place >= len(good.Nodes) || !isCondition2(good.Nodes[place]) {
				refuseFilter(t, good, e, place, api.ErrArg)
			}
		}
	}
}

// An Env of a program without variables fits with nil and with empty lists.
func TestNoVariables(t *testing.T) {
	p := mustText(t, "assert 1 / 0 == 2 || 3 < 4;")
	for _, e := range []api.Env{{}, both(list(), list()), both(nil, list())} {
		wantBack(t, p, e, 3, all(), lost())
		wantBack(t, p, e, 6, one(2), api.Env{})
		wantBack(t, p, e, 6, one(3), lost())
		wantFilter(t, p, e, 7, true, api.Env{})
		wantFilter(t, p, e, 7, false, lost())
		wantFilter(t, p, e, 2, true, lost(), 1)
		wantFilter(t, p, e, 1, true, lost(), 1)
	}
	refuseBoth(t, p, both(list(one(0)), nil), 7, api.ErrPut)
}

// deadEnvs are of the variables, in several forms.
func deadEnvs() []api.Env {
	out := []api.Env{
		lost(), {Dead: true, Vars: list(), Arrays: list()}, {Dead: true, Vars: list(one(1))}, {Dead: true, Vars: list(one(1), one(2)), Arrays: list(one(3), one(4))}, {Dead: true, Vars: list(one(1), one(2), one(3)), Arrays: list(no())},
	}
	for _, a := range nones() {
		out = append(out, of(a, one(1), one(1), one(1)), of(one(1), a, one(1), one(1)), of(one(1), one(1), a, one(1)), of(one(1), one(1), one(1), a))
	}
	return out
}

// Of a dead Env nothing is left and nothing faults, whatever the expression names and however sure its fault is.
func TestDeadEnvs(t *testing.T) {
	p := mustText(t, variables+"assert true && (1 / 0 + b[7] - 3 < -x || !(x != y));")
	for _, e := range deadEnvs() {
		for place, n := range p.Nodes {
			if isNumber2(n) {
				for _, c := range []api.Num{all(), one(1), in(0, 9), no(), in(3, 2), {}} {
					wantBack(t, p, e, place, c, lost())
				}
			} else {
				refuseBack(t, p, e, place, api.ErrArg)
			}
			if isCondition2(n) {
				wantFilter(t, p, e, place, true, lost())
				wantFilter(t, p, e, place, false, lost())
			} else {
				refuseFilter(t, p, e, place, api.ErrArg)
			}
		}
		for _, place := range badPlaces(p) {
			refuseBoth(t, p, e, place, api.ErrArg)
		}
	}
}

// The chapter's examples: scalars x and y, and no arrays.
func TestExamples(t *testing.T) {
	pair := func(x, y api.Num) api.Env { return both(list(x, y), nil) }
	filter := func(text string, sense bool, e, wanted api.Env, told ...int) {
		t.Helper()
		wantFilter(t, mustText(t, "var x; var y; assert "+text+";"), e, 3, sense, wanted, told...)
	}
	filter("x < 5", true, pair(all(), all()), pair(upTo(4), all()))
	filter("x < 5", false, pair(all(), all()), pair(from(5), all()))
	filter("x < y", true, pair(in(0, 9), in(3, 4)), pair(in(0, 3), in(3, 4)))
	filter("x == 3 || x == 7", true, pair(in(0, 9), one(0)), pair(nu(3, 7, 4, 3), one(0)))
	filter("x == 3", true, pair(in(0, 9), one(0)), pair(one(3), one(0)))
	filter("x == 3", false, pair(in(0, 9), one(0)), pair(in(0, 9), one(0)))
	filter("x == 7", true, pair(in(0, 9), one(0)), pair(one(7), one(0)))
	wantBack(t, mustText(t, "var x; var y; x := x + y;"), pair(in(0, 9), in(0, 9)), 3, one(15), pair(in(6, 9), in(6, 9)))
	filter("x / y > 100", true, pair(in(0, 9), in(0, 9)), lost(), 1)
	filter("x / y > 0", true, pair(one(5), one(0)), lost(), 1)
	filter("!(x < 5)", true, pair(all(), all()), pair(from(5), all()))
	filter("!(x < 5)", false, pair(all(), all()), pair(upTo(4), all()))
}

// Envs and Nums mean their normal forms, and answers are in it.
func TestOtherForms(t *testing.T) {
	for _, r := range []struct{ form, normal api.Num }{
		{nu(0, 9, 3, 5), nu(2, 8, 3, 2)}, {nu(0, 9, 0, 4), one(4)}, {api.Num{}, one(0)}, {nu(5, 5, 1, 0), one(5)}, {nu(1, 3, 4, 2), one(2)}, {nu(1, 8, 2, 0), nu(2, 8, 2, 0)},
	} {
		p := mustText(t, variables+"x := x + y * b[a[0]] - 3;")
		q := mustText(t, variables+"assert x < 7 && (x != y || b[a[0]] >= 2);")
		for _, other := range []api.Num{in(0, 9), one(3), all()} {
			forms := []api.Env{of(r.form, other, other, other), of(other, r.form, other, other), of(other, other, r.form, other), of(other, other, other, r.form), of(r.form, r.form, r.form, r.form)}
			for _, e := range forms {
				form := env.Norm(e)
				for place, n := range p.Nodes {
					if isNumber2(n) {
						wantBack(t, p, e, place, in(1, 6), words{p}.back(form, place, in(1, 6)))
						wantBack(t, p, e, place, r.form, words{p}.back(form, place, r.normal))
						wantBack(t, p, form, place, r.form, words{p}.back(form, place, r.normal))
					}
				}
				for _, sense := range []bool{true, false} {
					left, told := words{q}.filter(form, here, sense)
					wantFilter(t, q, e, here, sense, left, told...)
				}
			}
		}
		// Where nothing is cut the Env is answered in its normal form.
		wantBack(t, mustText(t, variables+"x := 7;"), of(r.form, r.form, r.form, r.form), here, all(), of(r.normal, r.normal, r.normal, r.normal))
		wantFilter(t, mustText(t, variables+"assert true;"), of(r.form, r.form, r.form, r.form), here, true, of(r.normal, r.normal, r.normal, r.normal))
	}
}
