package eval

import (
	"math"
	"reflect"
	"slices"
	"strings"
	"testing"

	"winnow/api"
	"winnow/check"
)

const example = "var x; array a[2]; a[x] := 1 / x; assert x < 2;"

// everyKind is a program in which each kind of node stands.
const everyKind = "var x; array a[2]; x := 1; a[x] := -x; input x; assert !true || x < 1; skip;" +
	"if x == 1 { skip; } else { x := a[0]; } while false { x := x / 2; }"

func mustText(t *testing.T, text string) api.Prog {
	t.Helper()
	p, err := check.Text(text)
	if err != nil {
		t.Fatalf("Text(%q) is refused: %v", text, err)
	}
	return p
}

func mustZero(t *testing.T, p api.Prog) api.Store {
	t.Helper()
	s, code := Zero(p)
	if code != api.OK {
		t.Fatalf("P6.1: Zero: %v", code)
	}
	return s
}

// storeOf makes a store of numbers and lists.
func storeOf(vars []int64, arrays ...[]int64) api.Store {
	return api.Store{Vars: vars, Arrays: arrays}
}

// placeOf is where the first node of a kind stands, or -1.
func placeOf(p api.Prog, kind api.NodeKind) int {
	return slices.IndexFunc(p.Nodes, func(n api.Node) bool { return n.Kind == kind })
}

func sameStore(s, u api.Store) bool {
	return slices.Equal(s.Vars, u.Vars) && slices.EqualFunc(s.Arrays, u.Arrays, slices.Equal)
}

func isZeroStore(s api.Store) bool { return reflect.DeepEqual(s, api.Store{}) }

func wantInt(t *testing.T, p api.Prog, s api.Store, place int, value int64, site int) {
	t.Helper()
	if v, at, code := Int(p, s, place); v != value || at != site || code != api.OK {
		t.Errorf("P6.2: Int of %v at %d = %d, %d, %v, want %d, %d", s, place, v, at, code, value, site)
	}
}

func wantBool(t *testing.T, p api.Prog, s api.Store, place int, value bool, site int) {
	t.Helper()
	if v, at, code := Bool(p, s, place); v != value || at != site || code != api.OK {
		t.Errorf("P6.2: Bool of %v at %d = %v, %d, %v, want %v, %d", s, place, v, at, code, value, site)
	}
}

func wantDone(t *testing.T, p api.Prog, s api.Store, place int, input int64, want api.Store) {
	t.Helper()
	if u, site, code := Do(p, s, place, input); !sameStore(u, want) || site != -1 || code != api.OK {
		t.Errorf("P6.3: Do of %v at %d = %v, %d, %v, want %v", s, place, u, site, code, want)
	}
}

func wantFault(t *testing.T, p api.Prog, s api.Store, place, site int) {
	t.Helper()
	if u, at, code := Do(p, s, place, 7); !isZeroStore(u) || at != site || code != api.OK {
		t.Errorf("P6.3: Do of %v at %d = %v, %d, %v, want the site %d", s, place, u, at, code, site)
	}
}

// wantNoInt, wantNoBool and wantNoDo hold a refusal: its number, and zeros beside it.
func wantNoInt(t *testing.T, p api.Prog, s api.Store, place int, want api.Errno) {
	t.Helper()
	if v, site, code := Int(p, s, place); v != 0 || site != 0 || code != want {
		t.Errorf("P6.2: Int at %d = %d, %d, %v, want %v", place, v, site, code, want)
	}
}

func wantNoBool(t *testing.T, p api.Prog, s api.Store, place int, want api.Errno) {
	t.Helper()
	if v, site, code := Bool(p, s, place); v || site != 0 || code != want {
		t.Errorf("P6.2: Bool at %d = %v, %d, %v, want %v", place, v, site, code, want)
	}
}

func wantNoDo(t *testing.T, p api.Prog, s api.Store, place int, want api.Errno) {
	t.Helper()
	if u, site, code := Do(p, s, place, 1); !isZeroStore(u) || site != 0 || code != want {
		t.Errorf("P6.3: Do at %d = %v, %d, %v, want %v", place, u, site, code, want)
	}
}

// wantPut holds all calls that take a store against ErrPut, at places that hold something and at places that don't.
func wantPut(t *testing.T, p api.Prog, s api.Store) {
	t.Helper()
	if Fits(p, s) {
		t.Errorf("P6.1: %v fits", s)
	}
	for _, place := range []int{math.MinInt, -1, 0, 1, 2, 3, 4, 5, 6, 7, 8, 9, 10, 11, math.MaxInt} {
		wantNoInt(t, p, s, place, api.ErrPut)
		wantNoBool(t, p, s, place, api.ErrPut)
		wantNoDo(t, p, s, place, api.ErrPut)
	}
}

// The chapter's examples.
func TestExamples(t *testing.T) {
	p := mustText(t, example)
	if s := mustZero(t, p); !sameStore(s, storeOf([]int64{0}, []int64{0, 0})) || !Fits(p, s) {
		t.Errorf("P6.1: Zero = %v", s)
	}
	with := func(x int64) api.Store { return storeOf([]int64{x}, []int64{0, 0}) }
	wantFault(t, p, with(0), 2, 1)
	wantFault(t, p, with(2), 2, 0)
	wantDone(t, p, with(1), 2, 0, storeOf([]int64{1}, []int64{0, 1}))
	wantInt(t, p, with(-1), 4, -1, -1)
	wantBool(t, p, with(-1), 8, true, -1)
	wantFault(t, p, with(2), 7, 2)
	wantDone(t, p, with(1), 7, 0, with(1))
	for _, place := range []int{8, 2, -1, 11} {
		wantNoInt(t, p, with(1), place, api.ErrArg)
	}
	wantNoInt(t, p, storeOf([]int64{1}), 4, api.ErrPut)
	p = mustText(t, "var x; assert false && (x / 0 == 1);")
	wantBool(t, p, mustZero(t, p), placeOf(p, api.KBinary), false, -1)
}

// P6.1: the store of zeros, of as little and of as much as there may be.
func TestZero(t *testing.T) {
	full := "var s1; array a[16]; var s2; var s3; var s4; array b[1]; var s5; var s6; array c[16]; var s7; var s8;"
	for _, c := range []struct {
		text    string
		scalars int
		lengths []int
	}{
		{"", 0, nil}, {"skip;", 0, nil}, {"var x;", 1, nil}, {"array a[1];", 0, []int{1}}, {"array a[16];", 0, []int{16}},
		{"array a[3]; array b[2];", 0, []int{3, 2}}, {"var x; var y; var z;", 3, nil}, {full, 8, []int{16, 1, 16}},
	} {
		p := mustText(t, c.text)
		s := mustZero(t, p)
		if !slices.Equal(s.Vars, make([]int64, c.scalars)) || len(s.Arrays) != len(c.lengths) {
			t.Errorf("P6.1: Zero of %q = %v", c.text, s)
			continue
		}
		for i, length := range c.lengths {
			if !slices.Equal(s.Arrays[i], make([]int64, length)) {
				t.Errorf("P6.1: Zero of %q = %v", c.text, s)
			}
		}
		if !Fits(p, s) {
			t.Errorf("P6.1: the store of zeros of %q doesn't fit", c.text)
		}
	}
}

// P6.1: what a store holds plays no part in whether it fits, nor whether an empty list is nil.
func TestFits(t *testing.T) {
	p := mustText(t, "var x; var y; array a[2]; array b[3];")
	if !Fits(p, storeOf([]int64{math.MinInt64, math.MaxInt64}, []int64{-1, 1}, []int64{9, 9, 9})) {
		t.Error("P6.1: a store of any numbers doesn't fit")
	}
	roomy := storeOf(make([]int64, 2, 9), make([]int64, 2, 9), make([]int64, 3, 9))
	if !Fits(p, roomy) {
		t.Error("P6.1: a store with room behind its lists doesn't fit")
	}
	none := mustText(t, "skip;")
	for _, s := range []api.Store{{}, {Vars: []int64{}, Arrays: [][]int64{}}, {Vars: []int64{}}, {Arrays: make([][]int64, 0, 3)}} {
		if !Fits(none, s) {
			t.Errorf("P6.1: %v doesn't fit a program without variables", s)
		}
		wantDone(t, none, s, 0, 1, api.Store{})
	}
}

// P6.1 to P6.3: stores with too little or too much.
func TestStoresThatDontFit(t *testing.T) {
	p := mustText(t, "var x; var y; array a[2]; array b[3]; x := y; assert a[x] < b[y]; skip;")
	vars, a, b := []int64{0, 0}, []int64{0, 0}, []int64{0, 0, 0}
	if !Fits(p, storeOf(vars, a, b)) {
		t.Error("P6.1: a store that fits doesn't")
	}
	for _, s := range []api.Store{
		{}, {Vars: vars}, storeOf(nil, a, b), storeOf(vars[:1], a, b), storeOf(b, a, b), storeOf(vars, a), storeOf(vars, b), storeOf(vars, a, b, nil), storeOf(vars, a, b, a),
		storeOf(vars, b, a), storeOf(vars, a, a), storeOf(vars, b, b), storeOf(vars, a[:1], b), storeOf(vars, nil, b), storeOf(vars, a, nil), storeOf(vars, nil, nil), storeOf(vars, a, make([]int64, 4)),
		storeOf(vars, a[:1], make([]int64, 4)), storeOf(append(vars, 0), a, b), storeOf(vars[:1], a, make([]int64, 4)),
	} {
		wantPut(t, p, s)
	}
	none := mustText(t, "skip; assert 1 < 2;")
	for _, s := range []api.Store{{Vars: []int64{0}}, {Arrays: [][]int64{nil}}, {Arrays: [][]int64{{0}}}} {
		wantPut(t, none, s)
	}
}

// P6.1 to P6.3: a Prog that check.Good refuses goes ahead of all else.
func TestProgsThatArentGood(t *testing.T) {
	spoil := map[string]func(p *api.Prog){
		"nothing but nodes":     func(p *api.Prog) { *p = api.Prog{Nodes: p.Nodes} },
		"no nodes":              func(p *api.Prog) { p.Nodes = nil },
		"a node less":           func(p *api.Prog) { p.Nodes = p.Nodes[:len(p.Nodes)-1] },
		"another scalar":        func(p *api.Prog) { p.Scalars[0] = "y" },
		"no scalar":             func(p *api.Prog) { p.Scalars = nil },
		"a scalar more":         func(p *api.Prog) { p.Scalars = append(p.Scalars, "y") },
		"a longer array":        func(p *api.Prog) { p.Arrays[0].Len = 3 },
		"an array below 0":      func(p *api.Prog) { p.Arrays[0].Len = -1 },
		"no array":              func(p *api.Prog) { p.Arrays = nil },
		"a symbol too great":    func(p *api.Prog) { p.Symbols[3] = 1 },
		"a symbol below 0":      func(p *api.Prog) { p.Symbols[2] = -1 },
		"no symbols":            func(p *api.Prog) { p.Symbols = nil },
		"another site":          func(p *api.Prog) { p.SiteOf[4] = 0 },
		"no sites of the nodes": func(p *api.Prog) { p.SiteOf = nil },
		"no sites":              func(p *api.Prog) { p.Sites = nil },
		"a node's operator":     func(p *api.Prog) { p.Nodes[4].Op = api.OpAnd },
		"no operator":           func(p *api.Prog) { p.Nodes[4].Op = 99 },
		"no kind":               func(p *api.Prog) { p.Nodes[4].Kind = -1 },
		"a depth":               func(p *api.Prog) { p.Nodes[10].Depth = 2 },
		"a number below 0":      func(p *api.Prog) { p.Nodes[5].Num = -1 },
		"a name":                func(p *api.Prog) { p.Nodes[3].Name = "a" },
	}
	good := mustText(t, example)
	fits := mustZero(t, good)
	for what, change := range spoil {
		p := mustText(t, example)
		change(&p)
		if check.Good(p) {
			t.Fatalf("%s: the Prog is still good", what)
		}
		if s, code := Zero(p); !isZeroStore(s) || code != api.ErrPut {
			t.Errorf("P6.1: %s: Zero = %v, %v", what, s, code)
		}
		for _, s := range []api.Store{fits, {}, {Vars: []int64{0}}, storeOf([]int64{0}, []int64{0, 0, 0}), storeOf([]int64{0, 0}, []int64{0, 0})} {
			wantPut(t, p, s)
		}
	}
}

// P6.2, P6.3: what each call takes of each kind of node, and of places that are none.
func TestPlaces(t *testing.T) {
	p := mustText(t, everyKind)
	s := mustZero(t, p)
	for _, place := range []int{math.MinInt, -2, -1, len(p.Nodes), len(p.Nodes) + 1, math.MaxInt} {
		wantNoInt(t, p, s, place, api.ErrArg)
		wantNoBool(t, p, s, place, api.ErrArg)
		wantNoDo(t, p, s, place, api.ErrArg)
	}
	seen := map[api.NodeKind]bool{}
	for place, n := range p.Nodes {
		seen[n.Kind] = true
		condition := n.Kind == api.KBool || n.Op == api.OpNot || n.Op >= api.OpLt
		number := n.Kind >= api.KNum && !condition
		simple := slices.Contains([]api.NodeKind{api.KAssign, api.KStore, api.KInput, api.KAssert, api.KSkip}, n.Kind)
		if !number {
			wantNoInt(t, p, s, place, api.ErrArg)
		} else if _, _, code := Int(p, s, place); code != api.OK {
			t.Errorf("P6.2: Int at %d: %v", place, code)
		}
		if !condition {
			wantNoBool(t, p, s, place, api.ErrArg)
		} else if _, _, code := Bool(p, s, place); code != api.OK {
			t.Errorf("P6.2: Bool at %d: %v", place, code)
		}
		if !simple {
			wantNoDo(t, p, s, place, api.ErrArg)
		} else if _, _, code := Do(p, s, place, 0); code != api.OK {
			t.Errorf("P6.3: Do at %d: %v", place, code)
		}
	}
	if len(seen) != int(api.KBinary)+1 {
		t.Errorf("only %d kinds of nodes were looked at", len(seen))
	}
	empty := mustText(t, "")
	wantNoInt(t, empty, api.Store{}, 0, api.ErrArg)
	wantNoBool(t, empty, api.Store{}, 0, api.ErrArg)
	wantNoDo(t, empty, api.Store{}, 0, api.ErrArg)
}

// P6.3: each simple statement, the scalar or the element that it gives a number, and input looked at by KInput alone.
func TestStatements(t *testing.T) {
	declared := "var x; array a[2]; var y; array b[3]; "
	before := storeOf([]int64{5, 1}, []int64{10, 11}, []int64{20, 21, 22})
	for _, c := range []struct {
		text string
		want api.Store
	}{
		{"x := x * 2 + b[y];", storeOf([]int64{31, 1}, []int64{10, 11}, []int64{20, 21, 22})},
		{"y := -x;", storeOf([]int64{5, -5}, []int64{10, 11}, []int64{20, 21, 22})},
		{"y := y;", before},
		{"a[0] := 3;", storeOf([]int64{5, 1}, []int64{3, 11}, []int64{20, 21, 22})},
		{"a[y] := a[0] + a[1];", storeOf([]int64{5, 1}, []int64{10, 21}, []int64{20, 21, 22})},
		{"b[y + y] := x;", storeOf([]int64{5, 1}, []int64{10, 11}, []int64{20, 21, 5})},
		{"b[a[1] - a[0]] := b[0];", storeOf([]int64{5, 1}, []int64{10, 11}, []int64{20, 20, 22})},
		{"assert x == 5 && !(y > x);", before},
		{"skip;", before},
	} {
		p := mustText(t, declared+c.text)
		for _, input := range []int64{0, -1, 77, math.MinInt64, math.MaxInt64} {
			wantDone(t, p, before, 4, input, c.want)
		}
	}
	for _, input := range []int64{0, -1, 77, math.MinInt64, math.MaxInt64} {
		wantDone(t, mustText(t, declared+"input x;"), before, 4, input, storeOf([]int64{input, 1}, []int64{10, 11}, []int64{20, 21, 22}))
		wantDone(t, mustText(t, declared+"input y;"), before, 4, input, storeOf([]int64{5, input}, []int64{10, 11}, []int64{20, 21, 22}))
	}
}

// P6.3: a statement in a block is carried out as any other one; what holds it and what stands beside it plays no part.
func TestStatementsInBlocks(t *testing.T) {
	p := mustText(t, "var x; if 1 / 0 == 0 { x := 3; x := 4; } else { while false { input x; } } x := 1 / 0;")
	s := mustZero(t, p)
	for place, n := range p.Nodes {
		if n.Kind == api.KAssign && p.Nodes[place+1].Kind == api.KNum {
			wantDone(t, p, s, place, 9, storeOf([]int64{p.Nodes[place+1].Num}))
		}
	}
	wantDone(t, p, s, placeOf(p, api.KInput), 9, storeOf([]int64{9}))
	wantFault(t, p, s, len(p.Nodes)-4, 1)
}

// P6.3: every element that there is, and every index next to them that there isn't.
func TestIndices(t *testing.T) {
	for _, length := range []int64{1, 2, 15, 16} {
		p := mustText(t, "var x; array a["+strings.Repeat(" ", 3)+decimal(length)+"]; a[x] := 9; x := a[x];")
		s := mustZero(t, p)
		for i := range s.Arrays[0] {
			s.Arrays[0][i] = int64(100 + i)
		}
		for _, index := range []int64{math.MinInt64, math.MinInt64 + 1, -1 << 32, -2, -1, length, length + 1, 1 << 32, 1<<32 + 1, math.MaxInt64} {
			s.Vars[0] = index
			wantFault(t, p, s, 2, 0)
			wantFault(t, p, s, 5, 1)
			wantInt(t, p, s, 6, 0, 1)
		}
		for index := range length {
			s.Vars[0] = index
			stored := storeOf([]int64{index}, slices.Clone(s.Arrays[0]))
			stored.Arrays[0][index] = 9
			wantDone(t, p, s, 2, 0, stored)
			wantDone(t, p, s, 5, 0, storeOf([]int64{100 + index}, s.Arrays[0]))
			wantInt(t, p, s, 6, 100+index, -1)
		}
	}
}

// P6.3: a fault in each place of a statement, and which of two is the first.
func TestFaults(t *testing.T) {
	for _, c := range []struct {
		text string
		site int
	}{
		{"x := 1 / 0;", 0}, {"x := 1 % 0;", 0}, {"x := a[2];", 0}, {"x := a[-1];", 0}, {"assert false;", 0}, {"a[2] := 1;", 0}, {"a[0 - 1] := 1;", 0},
		{"a[1 / 0] := 1;", 1}, {"a[1] := 1 / 0;", 1}, {"a[2] := 1 / 0;", 0}, {"a[1 / 0] := a[2];", 1}, {"a[a[0]] := a[2];", 2}, {"a[a[2]] := 1;", 1},
		{"a[a[0] + 2] := 1 / 0;", 0},
		{"assert 1 / 0 == 0;", 1}, {"assert 1 / 0 == 0 || true;", 1}, {"assert false || a[2] == 1 / 0;", 1}, {"assert true && a[0] == 1 % 0;", 2}, {"assert !(a[1] == a[0]);", 0},
		{"x := 1 / 0 + a[2];", 0}, {"x := a[2] + 1 / 0;", 0}, {"x := a[1] + 1 / 0;", 1}, {"x := 1 / 0 / 0;", 1}, {"x := 1 / (1 / 0);", 1}, {"x := (1 / 0) % (a[2]);", 1},
		{"x := a[1 / 0];", 1}, {"x := a[a[2]];", 1}, {"x := -(1 + -(2 * (3 - 1 % 0)));", 0}, {"x := 0 * (1 / 0);", 0}, {"x := 0 / (1 - 1);", 0}, {"x := a[a[a[0] + 2]];", 1},
	} {
		p := mustText(t, "var x; array a[2]; "+c.text)
		s := mustZero(t, p)
		wantFault(t, p, s, 2, c.site)
		if u := mustZero(t, p); !sameStore(s, u) {
			t.Errorf("P6.4: %s has changed the store to %v", c.text, s)
		}
	}
}

// P6.2, P6.3: a fault at the greatest depth that there is, and the last site of all.
func TestDeepFault(t *testing.T) {
	// Declarations have Depth 1, the statement too; each bracket puts the division one deeper.
	deep := "x := " + strings.Repeat("-(", api.MaxNest-3) + "1 / x" + strings.Repeat(")", api.MaxNest-3) + ";"
	p := mustText(t, "var x; "+strings.Repeat("assert true; ", api.MaxSites-1)+deep)
	if last := p.Nodes[len(p.Nodes)-1]; last.Depth != api.MaxNest {
		t.Fatalf("the deepest node has the Depth %d", last.Depth)
	}
	place := placeOf(p, api.KAssign)
	wantFault(t, p, storeOf([]int64{0}), place, api.MaxSites-1)
	wantInt(t, p, storeOf([]int64{0}), place+1, 0, api.MaxSites-1)
	wantDone(t, p, storeOf([]int64{1}), place, 0, storeOf([]int64{-1}))
	both := "assert " + strings.Repeat("!(", api.MaxNest-4) + "x == 1 % x" + strings.Repeat(")", api.MaxNest-4) + ";"
	p = mustText(t, "var x; "+both)
	wantFault(t, p, storeOf([]int64{0}), 1, 1)
	wantBool(t, p, storeOf([]int64{0}), 2, false, 1)
	wantFault(t, p, storeOf([]int64{1}), 1, 0)
}

// Each call hangs on what it is handed alone: one that gave a fault up leaves nothing behind.
func TestCallsBehindFaults(t *testing.T) {
	p := mustText(t, "var x; array a[2]; a[x] := 1 / x; assert x < 2; x := a[x] + 1 / x;")
	at := func(x int64) api.Store { return storeOf([]int64{x}, []int64{40, 41}) }
	store, assert, assign, sum := 2, 7, 11, 12
	for range 3 {
		wantFault(t, p, at(0), store, 1)
		wantDone(t, p, at(1), store, 0, storeOf([]int64{1}, []int64{40, 1}))
		wantFault(t, p, at(2), store, 0)
		wantDone(t, p, at(1), assert, 0, at(1))
		wantFault(t, p, at(2), assert, 2)
		wantInt(t, p, at(0), sum, 0, 4)
		wantInt(t, p, at(1), sum, 42, -1)
		wantInt(t, p, at(2), sum, 0, 3)
		wantNoInt(t, p, at(1), assert, api.ErrArg)
		wantFault(t, p, at(5), assign, 3)
		wantDone(t, p, at(1), assign, 0, storeOf([]int64{42}, []int64{40, 41}))
		wantBool(t, p, at(2), assert+1, false, -1)
	}
}

// What no evaluation gives up isn't taken for a fault of the program.
func TestAnotherPanicIsntHidden(t *testing.T) {
	p := mustText(t, "skip;")
	anything := func(api.Node) bool { return true }
	defer func() {
		if thrown := recover(); thrown != "a mistake" {
			t.Errorf("what was thrown became %v", thrown)
		}
	}()
	_, site, code := face(p, api.Store{}, 0, anything, func(*evaluation) bool { panic("a mistake") })
	t.Errorf("a mistake became %d, %v", site, code)
}
