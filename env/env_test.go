package env

import (
	"fmt"
	"math"
	"reflect"
	"slices"
	"testing"

	"winnow/api"
	"winnow/check"
)

const (
	minInt = math.MinInt64
	maxInt = math.MaxInt64
)

// nu is a Num as it is written, in its normal form or not.
func nu(lo, hi int64, m, r uint64) api.Num {
	return api.Num{I: api.Ival{Lo: lo, Hi: hi}, C: api.Cong{M: m, R: r}}
}

// in is the numbers from lo to hi, which aren't one alone.
func in(lo, hi int64) api.Num { return nu(lo, hi, 1, 0) }

func one(v int64) api.Num { return nu(v, v, 0, uint64(v)) }

func no() api.Num { return api.Num{Bot: true} }

func all() api.Num { return in(minInt, maxInt) }

// nones are Nums without numbers, in several forms.
func nones() []api.Num {
	return []api.Num{no(), {Bot: true, I: api.Ival{Lo: 0, Hi: 9}, C: api.Cong{M: 1}}, in(3, 2), nu(1, 3, 4, 0), nu(1, 3, 0, 7), nu(maxInt, minInt, 0, 0)}
}

func list(l ...api.Num) []api.Num { return l }

func of(vars ...api.Num) api.Env { return api.Env{Vars: vars} }

func arrays(l ...api.Num) api.Env { return api.Env{Arrays: l} }

func both(vars, arrays []api.Num) api.Env { return api.Env{Vars: vars, Arrays: arrays} }

func lost() api.Env { return api.Env{Dead: true} }

// losts are Envs without stores, in several forms.
func losts() []api.Env {
	out := []api.Env{lost(), {Dead: true, Vars: list(), Arrays: list()}, {Dead: true, Vars: list(one(1))}, {Dead: true, Arrays: list(in(0, 9))}, {Dead: true, Vars: list(one(1), no()), Arrays: list(in(0, 9))}}
	for _, a := range nones() {
		out = append(out, of(a), arrays(a), both(list(a, one(1)), list(one(2))), both(list(one(1), a), nil), both(list(one(1)), list(a, one(2))), both(nil, list(one(1), a)))
	}
	return out
}

// equal tells whether two Envs are the same to the letter, but for nil and empty lists; a dead one has no lists at all.
func equal(e, f api.Env) bool {
	return e.Dead == f.Dead && slices.Equal(e.Vars, f.Vars) && slices.Equal(e.Arrays, f.Arrays)
}

func want(t *testing.T, promise string, got, wanted api.Env, call string, args ...any) {
	t.Helper()
	if !equal(got, wanted) {
		t.Errorf("%s: %s = %v, want %v", promise, fmt.Sprintf(call, args...), got, wanted)
	}
}

func mustText(t testing.TB, text string) api.Prog {
	t.Helper()
	p, err := check.Text(text)
	if err != nil {
		t.Fatalf("Text(%q) is refused: %v", text, err)
	}
	return p
}

// refused are Progs that check.Good refuses.
func refused(t testing.TB) []api.Prog {
	less := mustText(t, "var x; array a[2]; a[x] := 1;")
	less.Scalars = nil
	more := mustText(t, "var x; array a[2];")
	more.Arrays = append(more.Arrays, api.Array{Name: "b", Len: 2})
	name := mustText(t, "var x; x := 1;")
	name.Nodes = slices.Clone(name.Nodes)
	name.Nodes[1].Name = "y"
	return []api.Prog{less, more, name, {Scalars: []string{"x"}}, {Arrays: []api.Array{{Name: "a", Len: 1}}}, {Nodes: []api.Node{{Depth: 1, Kind: api.KVar, Name: "x"}}}, {Sites: []int{0}}}
}

func TestZeroAndTop(t *testing.T) {
	for _, h := range []struct {
		text         string
		vars, arrays int
	}{
		{"", 0, 0}, {"skip;", 0, 0}, {"var x;", 1, 0}, {"array a[3];", 0, 1}, {"var x; array a[3];", 1, 1},
		{"var x; var y; array a[1]; var z; array b[16]; a[x] := y / z;", 3, 2},
		{"var a; var b; var c; var d; var e; var f; var g; var h; array i[1]; array j[1]; array k[1];", 8, 3},
	} {
		p := mustText(t, h.text)
		zero, code := Zero(p)
		if code != api.OK || !equal(zero, both(slices.Repeat(list(one(0)), h.vars), slices.Repeat(list(one(0)), h.arrays))) {
			t.Errorf("P15.1: Zero(%q) = %v, %d", h.text, zero, code)
		}
		top, code := Top(p)
		if code != api.OK || !equal(top, both(slices.Repeat(list(all()), h.vars), slices.Repeat(list(all()), h.arrays))) {
			t.Errorf("P15.1: Top(%q) = %v, %d", h.text, top, code)
		}
		if !Fits(p, zero) || !Fits(p, top) {
			t.Errorf("P15.1: Zero or Top doesn't fit %q", h.text)
		}
	}
	for i, p := range refused(t) {
		if e, code := Zero(p); code != api.ErrPut || !reflect.DeepEqual(e, api.Env{}) {
			t.Errorf("P15.1: Zero of the refused Prog %d = %v, %d", i, e, code)
		}
		if e, code := Top(p); code != api.ErrPut || !reflect.DeepEqual(e, api.Env{}) {
			t.Errorf("P15.1: Top of the refused Prog %d = %v, %d", i, e, code)
		}
	}
}

func TestFits(t *testing.T) {
	for _, text := range []string{"", "var x;", "array a[2];", "var x; array a[2];", "var x; var y; array a[1]; array b[16];"} {
		p := mustText(t, text)
		for vars := range 5 {
			for lists := range 5 {
				fits := vars == len(p.Scalars) && lists == len(p.Arrays)
				// It is looked at as it is handed in: a Num without numbers doesn't make it fit, nor a strange one keep it from fitting.
				for _, a := range append(nones(), one(3), all(), nu(1, 5, 2, 0), api.Num{}) {
					e := both(slices.Repeat(list(a), vars), slices.Repeat(list(a), lists))
					if Fits(p, e) != fits {
						t.Errorf("P15.1: Fits(%q, %v) = %v", text, e, !fits)
					}
					e.Dead = true
					if !Fits(p, e) {
						t.Errorf("P15.1: Fits(%q, %v) = false", text, e)
					}
				}
			}
		}
		if !Fits(p, lost()) {
			t.Errorf("P15.1: Fits(%q, dead) = false", text)
		}
	}
	if p := mustText(t, ""); !Fits(p, both(list(), list())) || !Fits(p, both(nil, list())) || !Fits(p, both(list(), nil)) {
		t.Error("P15.1: Fits tells nil and empty lists apart")
	}
	for i, p := range refused(t) {
		for _, e := range []api.Env{{}, lost(), of(one(1)), arrays(one(1)), both(list(one(1)), list(one(1))), both(list(one(1)), list(one(1), one(1)))} {
			if Fits(p, e) {
				t.Errorf("P15.1: %v fits the refused Prog %d", e, i)
			}
		}
	}
}

func TestNorm(t *testing.T) {
	for _, h := range []struct{ e, want api.Env }{
		{of(in(3, 2)), lost()}, {of(nu(1, 5, 2, 0)), of(nu(2, 4, 2, 0))},
		{api.Env{}, api.Env{}}, {both(list(), list()), api.Env{}}, {both(nil, list()), api.Env{}},
		{arrays(nu(1, 5, 2, 0)), arrays(nu(2, 4, 2, 0))}, {of(nu(1, 5, 2, 6)), of(nu(2, 4, 2, 0))}, {of(nu(5, 5, 1, 0)), of(one(5))}, {arrays(nu(0, 9, 0, 4)), arrays(one(4))}, {of(nu(1, 3, 4, 2)), of(one(2))},
		{of(api.Num{}), of(one(0))}, {of(all(), one(minInt)), of(all(), one(minInt))},
		{both(list(one(1), nu(0, 4, 3, 0)), list(nu(0, 4, 3, 1), in(2, 3))), both(list(one(1), nu(0, 3, 3, 0)), list(nu(1, 4, 3, 1), in(2, 3)))},
	} {
		want(t, "P15.2", Norm(h.e), h.want, "Norm(%v)", h.e)
	}
	for _, e := range losts() {
		want(t, "P15.2", Norm(e), lost(), "Norm(%v)", e)
		if got := Norm(e); got.Vars != nil || got.Arrays != nil {
			t.Errorf("P15.2: Norm(%v) = %#v: Dead isn't alone", e, got)
		}
	}
}

func storeOf(vars []int64, arrays ...[]int64) api.Store {
	return api.Store{Vars: vars, Arrays: arrays}
}

func TestHas(t *testing.T) {
	few := both(list(in(1, 3)), list(in(0, 9)))
	odd := both(list(nu(0, 8, 3, 4), one(minInt)), list(nu(-5, 5, 2, 1), in(maxInt-1, maxInt)))
	for _, h := range []struct {
		e    api.Env
		s    api.Store
		want bool
	}{
		{few, storeOf([]int64{2}, []int64{0, 9}), true}, {few, storeOf([]int64{2}, []int64{0, 10}), false}, {few, storeOf([]int64{2}, []int64{}), true}, {few, storeOf([]int64{2}, nil), true},
		// at and beside the ends
		{few, storeOf([]int64{0}, nil), false}, {few, storeOf([]int64{1}, nil), true}, {few, storeOf([]int64{3}, nil), true}, {few, storeOf([]int64{4}, nil), false},
		{few, storeOf([]int64{1}, []int64{-1}), false}, {few, storeOf([]int64{1}, []int64{0}), true}, {few, storeOf([]int64{1}, []int64{9}), true}, {few, storeOf([]int64{1}, []int64{10}), false},
		{few, storeOf([]int64{1}, []int64{-1, 5, 5}), false}, {few, storeOf([]int64{1}, []int64{5, -1, 5}), false}, {few, storeOf([]int64{1}, []int64{5, 5, -1}), false},
		{odd, storeOf([]int64{4, minInt}, []int64{-5, 5}, []int64{maxInt}), true}, {odd, storeOf([]int64{1, minInt}, []int64{}, []int64{maxInt - 1}), true}, {odd, storeOf([]int64{0, minInt}, nil, nil), false}, {odd, storeOf([]int64{2, minInt}, nil, nil), false}, {odd, storeOf([]int64{10, minInt}, nil, nil), false},
		{odd, storeOf([]int64{7, maxInt}, nil, nil), false}, {odd, storeOf([]int64{7, minInt + 1}, nil, nil), false}, {odd, storeOf([]int64{7, minInt}, []int64{4}, nil), false}, {odd, storeOf([]int64{7, minInt}, []int64{3, -7}, nil), false}, {odd, storeOf([]int64{7, minInt}, []int64{3}, []int64{minInt}), false}, {odd, storeOf([]int64{7, minInt}, []int64{3}, []int64{maxInt - 2}), false},
		// unlike shapes
		{few, storeOf([]int64{2}), false}, {few, storeOf(nil, nil), false}, {few, storeOf([]int64{2, 2}, nil), false}, {few, storeOf([]int64{2}, nil, nil), false}, {few, storeOf(nil), false}, {few, storeOf([]int64{2, 2}), false}, {few, storeOf(nil, nil, nil), false},
		{api.Env{}, storeOf(nil), true}, {both(list(), list()), storeOf([]int64{}), true}, {api.Env{}, storeOf([]int64{0}), false}, {api.Env{}, storeOf(nil, nil), false},
		{of(all(), all()), storeOf([]int64{minInt, maxInt}), true}, {arrays(all()), storeOf(nil, []int64{minInt, 0, maxInt}), true}, {of(api.Num{}), storeOf([]int64{0}), true}, {of(api.Num{}), storeOf([]int64{1}), false},
	} {
		if Has(h.e, h.s) != h.want {
			t.Errorf("P15.3: Has(%v, %v) = %v", h.e, h.s, !h.want)
		}
	}
	for _, e := range losts() {
		for _, s := range []api.Store{{}, storeOf([]int64{1}), storeOf(nil, []int64{}), storeOf(nil, []int64{1}), storeOf([]int64{1}, []int64{}), storeOf([]int64{1, 1}, []int64{2}), storeOf([]int64{1, 1}), storeOf(nil, nil, nil), storeOf(nil, nil), storeOf([]int64{1}, nil, nil), storeOf([]int64{7, 1}, []int64{2})} {
			if Has(e, s) {
				t.Errorf("P15.3: Has(%v, %v) = true", e, s)
			}
		}
	}
}

func TestSet(t *testing.T) {
	two := of(one(1), one(2))
	want(t, "P15.6", SetVar(two, 1, no()), lost(), "SetVar({1, 2}, 1, none)")
	want(t, "P15.6", SetVar(two, 2, one(5)), two, "SetVar({1, 2}, 2, 5)")
	want(t, "P15.6", SetArray(lost(), 0, one(5)), lost(), "SetArray(dead, 0, 5)")
	e := both(list(one(1), in(2, 3), nu(0, 9, 3, 1)), list(one(4), in(5, 6), nu(0, 9, 2, 1)))
	form := both(list(one(1), in(2, 3), nu(1, 7, 3, 1)), list(one(4), in(5, 6), nu(1, 9, 2, 1)))
	for i := -3; i < 6; i++ {
		for _, h := range []struct{ a, form api.Num }{{one(7), one(7)}, {nu(1, 5, 2, 0), nu(2, 4, 2, 0)}, {nu(0, 9, 0, 4), one(4)}, {nu(0, 9, 4, 11), nu(3, 7, 4, 3)}, {all(), all()}, {api.Num{}, one(0)}} {
			vars, arrays := Norm(form), Norm(form)
			if i >= 0 && i < 3 {
				vars.Vars[i], arrays.Arrays[i] = h.form, h.form
			}
			want(t, "P15.6", SetVar(e, i, h.a), vars, "SetVar(%v, %d, %v)", e, i, h.a)
			want(t, "P15.6", SetArray(e, i, h.a), arrays, "SetArray(%v, %d, %v)", e, i, h.a)
		}
		for _, a := range nones() {
			wanted := lost()
			if i < 0 || i >= 3 {
				wanted = form
			}
			want(t, "P15.6", SetVar(e, i, a), wanted, "SetVar(%v, %d, %v)", e, i, a)
			want(t, "P15.6", SetArray(e, i, a), wanted, "SetArray(%v, %d, %v)", e, i, a)
		}
	}
	for _, i := range []int{math.MinInt, math.MaxInt, 1 << 40} {
		want(t, "P15.6", SetVar(e, i, one(7)), form, "SetVar(%v, %d, 7)", e, i)
		want(t, "P15.6", SetArray(e, i, one(7)), form, "SetArray(%v, %d, 7)", e, i)
	}
}

func TestSetOfShapesAndOfTheDead(t *testing.T) {
	for i := -1; i < 3; i++ {
		want(t, "P15.6", SetVar(api.Env{}, i, one(7)), api.Env{}, "SetVar({}, %d, 7)", i)
		want(t, "P15.6", SetArray(api.Env{}, i, one(7)), api.Env{}, "SetArray({}, %d, 7)", i)
		// the other list's length has no say
		want(t, "P15.6", SetVar(arrays(one(1), one(2)), i, one(7)), arrays(one(1), one(2)), "SetVar({; 1, 2}, %d, 7)", i)
		want(t, "P15.6", SetArray(of(one(1), one(2)), i, one(7)), of(one(1), one(2)), "SetArray({1, 2}, %d, 7)", i)
		for _, e := range losts() {
			// A Num without numbers has made it dead, even if it stands where the new one would.
			for _, a := range []api.Num{one(5), no(), all()} {
				want(t, "P15.6", SetVar(e, i, a), lost(), "SetVar(%v, %d, %v)", e, i, a)
				want(t, "P15.6", SetArray(e, i, a), lost(), "SetArray(%v, %d, %v)", e, i, a)
			}
		}
	}
}
