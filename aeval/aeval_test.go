package aeval

import (
	"math"
	"slices"
	"testing"

	"winnow/api"
	"winnow/check"
	"winnow/num"
)

const (
	minInt = math.MinInt64
	maxInt = math.MaxInt64
)

// example is chapter 4's example 1: node 4 is 1 / x.
const example = "var x; array a[2]; a[x] := 1 / x; assert x < 2;"

// everyKind is a program in which each kind of node and each operator stands.
const everyKind = "var x; array a[2]; x := 1; a[x] := -x; input x; assert !true || x < 1 && x <= 2; skip;" +
	"if x == 1 { skip; } else { x := a[0]; } while x > 3 { x := x / 2 - x % 3; } while x >= 3 || x != 4 { x := x * 2 + 1; }"

// nu is a Num as it is written, in its normal form or not.
func nu(lo, hi int64, m, r uint64) api.Num {
	return api.Num{I: api.Ival{Lo: lo, Hi: hi}, C: api.Cong{M: m, R: r}}
}

// in is the numbers from lo to hi, which aren't one alone.
func in(lo, hi int64) api.Num { return nu(lo, hi, 1, 0) }

func one(v int64) api.Num { return nu(v, v, 0, uint64(v)) }

func no() api.Num { return api.Num{Bot: true} }

func all() api.Num { return in(minInt, maxInt) }

// nones are Nums without numbers, in several forms.
func nones() []api.Num {
	return []api.Num{no(), {Bot: true, I: api.Ival{Lo: 0, Hi: 9}, C: api.Cong{M: 1}}, in(3, 2), nu(1, 3, 4, 0), nu(1, 3, 0, 7), nu(maxInt, minInt, 0, 0)}
}

func list(l ...api.Num) []api.Num { return l }

func both(vars, arrays []api.Num) api.Env { return api.Env{Vars: vars, Arrays: arrays} }

// xa is an Env of one scalar and one array.
func xa(x, a api.Num) api.Env { return both(list(x), list(a)) }

func lost() api.Env { return api.Env{Dead: true} }

func mustText(t testing.TB, text string) api.Prog {
	t.Helper()
	p, err := check.Text(text)
	if err != nil {
		t.Fatalf("Text(%q) is refused: %v", text, err)
	}
	return p
}

// wantEval wants a Num and sites.
func wantEval(t *testing.T, p api.Prog, e api.Env, place int, value api.Num, sites ...int) {
	t.Helper()
	if got, told, code := Eval(p, e, place); got != value || !slices.Equal(told, sites) || code != api.OK {
		t.Errorf("P16.1: Eval of %v at %d = %v, %v, %v, want %v, %v", e, place, got, told, code, value, sites)
	}
}

// wantCode wants an error, and all else to be zero.
func wantCode(t *testing.T, p api.Prog, e api.Env, place int, wanted api.Errno) {
	t.Helper()
	if got, told, code := Eval(p, e, place); got != (api.Num{}) || len(told) != 0 || code != wanted {
		t.Errorf("P16.1: Eval of %v at %d = %v, %v, %v, want %v", e, place, got, told, code, wanted)
	}
}

func TestExampleOfDivisions(t *testing.T) {
	p := mustText(t, example)
	wantEval(t, p, xa(in(0, 3), one(0)), 4, in(0, 1), 1)
	wantEval(t, p, xa(one(0), one(0)), 4, no(), 1)
	wantEval(t, p, xa(in(1, 3), one(0)), 4, in(0, 1))
	wide, _ := num.Apply(api.OpDiv, one(1), in(-1, 1))
	wantEval(t, p, xa(in(-1, 1), one(0)), 4, wide, 1)
	for _, place := range []int{3, 6, 9} {
		wantEval(t, p, xa(in(0, 3), one(0)), place, in(0, 3))
	}
	wantEval(t, p, xa(in(0, 3), one(0)), 5, one(1))
	wantEval(t, p, xa(in(0, 3), one(0)), 10, one(2))
}

func TestExampleOfLoads(t *testing.T) {
	p := mustText(t, "var x; array a[2]; x := a[x];")
	wantEval(t, p, xa(in(0, 1), in(5, 9)), 3, in(5, 9))
	wantEval(t, p, xa(in(1, 2), in(5, 9)), 3, in(5, 9), 0)
	wantEval(t, p, xa(in(2, 9), in(5, 9)), 3, no(), 0)
	for _, a := range nones() {
		wantEval(t, p, xa(a, in(5, 9)), 3, no())
	}
}

func TestExampleOfNothingOnTheLeft(t *testing.T) {
	p := mustText(t, "var x; array a[2]; x := (1 / x) + a[9];")
	wantEval(t, p, xa(one(0), in(5, 9)), 3, no(), 0)
	wantEval(t, p, xa(in(0, 1), in(5, 9)), 3, no(), 0, 1)
}

func TestExampleOfErrors(t *testing.T) {
	p := mustText(t, example)
	wantCode(t, p, xa(in(0, 3), one(0)), 8, api.ErrArg)
	wantCode(t, p, both(list(in(0, 3), one(0)), list(one(0))), 4, api.ErrPut)
}

// badPlaces are places at which there can't be a number, whatever the tree is.
func badPlaces(p api.Prog) []int {
	return []int{math.MinInt, -300, -2, -1, len(p.Nodes), len(p.Nodes) + 1, api.MaxNodes, 1 << 40, math.MaxInt}
}

// isNumber2 tells numbers apart by the document's list of sorts.
func isNumber2(n api.Node) bool {
	return slices.Contains([]api.NodeKind{api.KNum, api.KRead, api.KLoad}, n.Kind) ||
		slices.Contains([]api.Op{api.OpNeg, api.OpAdd, api.OpSub, api.OpMul, api.OpDiv, api.OpRem}, n.Op)
}

func TestPlaces(t *testing.T) {
	p := mustText(t, everyKind)
	kinds, ops := map[api.NodeKind]bool{}, map[api.Op]bool{}
	e := xa(in(1, 9), in(3, 4))
	for place, n := range p.Nodes {
		kinds[n.Kind], ops[n.Op] = true, true
		if !isNumber2(n) {
			wantCode(t, p, e, place, api.ErrArg)
			wantCode(t, p, lost(), place, api.ErrArg)
			continue
		}
		value, sites := words{p, e}.eval(place)
		wantEval(t, p, e, place, value, sites...)
		wantEval(t, p, lost(), place, no())
	}
	if len(kinds) != int(api.KBinary)+1 || len(ops) != int(api.OpOr)+1 {
		t.Errorf("there are %d kinds and %d operators in the program", len(kinds), len(ops))
	}
	for _, place := range badPlaces(p) {
		wantCode(t, p, e, place, api.ErrArg)
	}
	// A tree without nodes has no place at all, and one that ends with a number ends there.
	for place := -2; place < 3; place++ {
		wantCode(t, mustText(t, ""), api.Env{}, place, api.ErrArg)
		wantCode(t, mustText(t, ""), lost(), place, api.ErrArg)
	}
	last := mustText(t, "var x; x := 7;")
	wantEval(t, last, both(list(one(0)), nil), 2, one(7))
	wantCode(t, last, both(list(one(0)), nil), 3, api.ErrArg)
}

// refused are Progs that check.Good refuses.
func refused(t testing.TB) []api.Prog {
	broken := func(change func(p *api.Prog)) api.Prog {
		p := mustText(t, example)
		change(&p)
		return p
	}
	return []api.Prog{
		broken(func(p *api.Prog) { p.Scalars = nil }), broken(func(p *api.Prog) { p.Arrays = nil }), broken(func(p *api.Prog) { p.Arrays[0].Len = 3 }),
		broken(func(p *api.Prog) { p.Symbols = nil }), broken(func(p *api.Prog) { p.Symbols[6] = 5 }), broken(func(p *api.Prog) { p.Symbols[6] = -1 }),
		broken(func(p *api.Prog) { p.Sites = nil }), broken(func(p *api.Prog) { p.SiteOf = p.SiteOf[:3] }), broken(func(p *api.Prog) { p.SiteOf[4] = -1 }),
		broken(func(p *api.Prog) { p.Nodes = p.Nodes[:6] }), broken(func(p *api.Prog) { p.Nodes = nil }), broken(func(p *api.Prog) { p.Nodes[6].Name = "y" }), broken(func(p *api.Prog) { p.Nodes[4].Op = api.OpLt }),
		broken(func(p *api.Prog) { p.Nodes[5].Depth = 9 }), broken(func(p *api.Prog) { p.Nodes[4].Kind = 99 }), broken(func(p *api.Prog) { p.Nodes[4].Op = -1 }), broken(func(p *api.Prog) { p.Nodes[5].Num = -1 }),
		{Nodes: []api.Node{{Depth: 1, Kind: api.KNum}}, Symbols: []int{-1}, SiteOf: []int{-1}}, {Scalars: []string{"x"}, Arrays: []api.Array{{Name: "a", Len: 2}}}, {Sites: []int{0}},
	}
}

// misfits are Envs that don't fit the example: as they are handed in, so that a Num without numbers doesn't help.
func misfits() []api.Env {
	out := []api.Env{{}, both(list(), list())}
	for _, a := range append(nones(), one(1), all()) {
		out = append(out, both(list(a), nil), both(nil, list(a)), both(list(a, a), list(a)), both(list(a), list(a, a)), both(list(a, a), nil), both(nil, list(a, a)))
	}
	return out
}

func TestPutComesAheadOfArg(t *testing.T) {
	good := mustText(t, example)
	fitting := []api.Env{xa(one(1), one(1)), xa(all(), all()), xa(no(), one(1)), lost(), {Dead: true, Vars: list(one(1)), Arrays: list(one(1))}}
	for i, p := range append(refused(t), good) {
		ok := i == len(refused(t))
		for place := -2; place < len(good.Nodes)+3; place++ {
			for _, e := range misfits() {
				wantCode(t, p, e, place, api.ErrPut)
			}
			for _, e := range fitting {
				if !ok {
					wantCode(t, p, e, place, api.ErrPut)
				} else if place < 0 || place >= len(p.Nodes) || !isNumber2(p.Nodes[place]) {
					wantCode(t, p, e, place, api.ErrArg)
				}
			}
		}
		for _, place := range badPlaces(p) {
			wantCode(t, p, misfits()[0], place, api.ErrPut)
			if !ok {
				wantCode(t, p, lost(), place, api.ErrPut)
			}
		}
	}
	// An Env of a program without variables fits with nil and with empty lists.
	bare := mustText(t, "assert 1 / 0 == 2;")
	for _, e := range []api.Env{{}, both(list(), list()), both(nil, list())} {
		wantEval(t, bare, e, 2, no(), 1)
		wantEval(t, bare, e, 5, one(2))
	}
	wantCode(t, bare, xa(one(0), one(0)), 2, api.ErrPut)
}

func TestDeadEnvs(t *testing.T) {
	p := mustText(t, "var x; var y; array a[2]; array b[3]; x := 1 / 0 + b[7] - 3;")
	dead := []api.Env{
		lost(), {Dead: true, Vars: list(), Arrays: list()}, {Dead: true, Vars: list(one(1))}, {Dead: true, Vars: list(one(1), one(2)), Arrays: list(one(3), one(4))}, {Dead: true, Vars: list(one(1), one(2), one(3)), Arrays: list(no())},
	}
	for _, a := range nones() {
		dead = append(dead, both(list(a, one(1)), list(one(1), one(1))), both(list(one(1), a), list(one(1), one(1))), both(list(one(1), one(1)), list(a, one(1))), both(list(one(1), one(1)), list(one(1), a)))
	}
	for _, e := range dead {
		for place := range p.Nodes {
			if isNumber2(p.Nodes[place]) {
				// What the expression names has no say, nor has a fault that is sure.
				wantEval(t, p, e, place, no())
			} else {
				wantCode(t, p, e, place, api.ErrArg)
			}
		}
		for _, place := range badPlaces(p) {
			wantCode(t, p, e, place, api.ErrArg)
		}
	}
}
