package check

import (
	"errors"
	"math"
	"reflect"
	"slices"
	"strconv"
	"strings"
	"testing"

	"winnow/api"
	"winnow/parse"
)

const example = "var x; array a[2]; a[x] := 1 / x; assert x < 2;"

// everyKind is a program in which each kind of node stands, and each operator.
const everyKind = "var x; array a[16]; var longest_name_16b; array b[1];" +
	"skip; input longest_name_16b; x := -longest_name_16b * 3 - a[b[0]];" +
	"if !(x < 1) && x <= 2 || false { b[x % 2] := x + 1; } else { a[1] := 1 / x; }" +
	"while x > 3 || x >= 4 { if x == 5 { } x := 0; } assert x != 6;"

func mustText(t *testing.T, text string) api.Prog {
	t.Helper()
	p, err := Text(text)
	if err != nil {
		t.Fatalf("P4.2: Text(%q) is refused: %v", text, err)
	}
	return p
}

func mustTree(t *testing.T, text string) []api.Node {
	t.Helper()
	nodes, err := parse.Parse(text)
	if err != nil {
		t.Fatalf("Parse(%q) is refused: %v", text, err)
	}
	return nodes
}

// wantFault holds a refusal against what it must be: a *Fault itself, beside a zero Prog, in which errors.Is and errors.As find all that it wraps.
func wantFault(t *testing.T, what string, p api.Prog, err error, code api.Errno, at int) {
	t.Helper()
	fault, is := err.(*api.Fault)
	if !is || fault.Code != code || fault.At != at || fault.Of != api.ErrReject {
		t.Fatalf("%s: %v, want %v at %d", what, err, code, at)
	}
	if !reflect.DeepEqual(p, api.Prog{}) {
		t.Fatalf("%s: refused, but the Prog is %v", what, p)
	}
	var found *api.Fault
	var number api.Errno
	if !errors.As(err, &found) || found != fault || !errors.As(err, &number) || number != code {
		t.Fatalf("%s: errors.As doesn't find the Fault or the Errno", what)
	}
	if !errors.Is(err, api.ErrReject) || !errors.Is(err, code) || errors.Is(err, api.ErrConfig) || errors.Is(err, api.OK) {
		t.Fatalf("%s: errors.Is tells otherwise than ErrReject and %v", what, code)
	}
}

// wantRefused holds Text against a code and a place, and Program against the number of the node that stands there.
func wantRefused(t *testing.T, text string, code api.Errno, at int) {
	t.Helper()
	p, err := Text(text)
	wantFault(t, "P4.2: Text("+strconv.Quote(text)+")", p, err, code, at)
	nodes := mustTree(t, text)
	number := slices.IndexFunc(nodes, func(n api.Node) bool { return n.At == at })
	p, err = Program(nodes)
	wantFault(t, "P4.1: Program of "+strconv.Quote(text), p, err, code, number)
}

func wantTaken(t *testing.T, text string) {
	t.Helper()
	p := mustText(t, text)
	if nodes := mustTree(t, text); !slices.Equal(p.Nodes, nodes) {
		t.Errorf("P4.2: Text(%q) has the nodes %v, want %v", text, p.Nodes, nodes)
	}
	if !Good(p) {
		t.Errorf("P4.3: Text(%q) isn't Good", text)
	}
}

func wantProg(t *testing.T, text string, want api.Prog) {
	t.Helper()
	want.Nodes = mustTree(t, text)
	for face, ask := range map[string]func() (api.Prog, error){
		"P4.2: Text":    func() (api.Prog, error) { return Text(text) },
		"P4.1: Program": func() (api.Prog, error) { return Program(want.Nodes) },
	} {
		p, err := ask()
		if err != nil || !slices.Equal(p.Nodes, want.Nodes) || !slices.Equal(p.Scalars, want.Scalars) || !slices.Equal(p.Arrays, want.Arrays) ||
			!slices.Equal(p.Symbols, want.Symbols) || !slices.Equal(p.Sites, want.Sites) || !slices.Equal(p.SiteOf, want.SiteOf) {
			t.Errorf("%s of %q = %v, %v, want %v", face, text, p, err, want)
		}
		if !Good(p) {
			t.Errorf("P4.3: %s of %q isn't Good", face, text)
		}
	}
}

// P4.1, P4.2: all fields of ordinary programs.
func TestPrograms(t *testing.T) {
	wantProg(t, example, api.Prog{
		Scalars: []string{"x"},
		Arrays:  []api.Array{{Name: "a", Len: 2}},
		Symbols: []int{0, 0, 0, 0, -1, -1, 0, -1, -1, 0, -1},
		Sites:   []int{2, 4, 7},
		SiteOf:  []int{-1, -1, 0, -1, 1, -1, -1, 2, -1, -1, -1},
	})
	for _, text := range []string{"", "# nothing"} {
		wantProg(t, text, api.Prog{})
	}
	wantProg(t, "array b[16]; var y; array a[1]; var x;", api.Prog{
		Scalars: []string{"y", "x"},
		Arrays:  []api.Array{{Name: "b", Len: 16}, {Name: "a", Len: 1}},
		Symbols: []int{0, 0, 1, 1},
		SiteOf:  []int{-1, -1, -1, -1},
	})
	// 0 x, 1 y, 2 a, 3 b; 4 if, 5 !, 6 ==, 7 x, 8 %, 9 y, 10 3; 11 block, 12 input, 13 store b, 14 load a, 15 0, 16 -, 17 y; 18 block, 19 assert, 20 true; 21 while, 22 false, 23 block, 24 skip, 25 y :=, 26 load b, 27 x.
	wantProg(t, "var x; var y; array a[3]; array b[4]; if !(x == y % 3) { input y; b[a[0]] := -y; } else { assert true; } while false { skip; y := b[x]; }", api.Prog{
		Scalars: []string{"x", "y"},
		Arrays:  []api.Array{{Name: "a", Len: 3}, {Name: "b", Len: 4}},
		Symbols: []int{0, 1, 0, 1, -1, -1, -1, 0, -1, 1, -1, -1, 1, 1, 0, -1, -1, 1, -1, -1, -1, -1, -1, -1, -1, 1, 1, 0},
		Sites:   []int{8, 13, 14, 19, 26},
		SiteOf:  []int{-1, -1, -1, -1, -1, -1, -1, -1, 0, -1, -1, -1, -1, 1, 2, -1, -1, -1, -1, 3, -1, -1, -1, -1, -1, -1, 4, -1},
	})
	wantTaken(t, everyKind)
}

// P4.1: names are told apart by all their bytes.
func TestNames(t *testing.T) {
	wantProg(t, "var x; var X; var x1; var _x; array x_[2]; var xx; X := xx; _x := x_[x1];", api.Prog{
		Scalars: []string{"x", "X", "x1", "_x", "xx"},
		Arrays:  []api.Array{{Name: "x_", Len: 2}},
		Symbols: []int{0, 1, 2, 3, 0, 4, 1, 4, 3, 0, 2},
		Sites:   []int{9},
		SiteOf:  []int{-1, -1, -1, -1, -1, -1, -1, -1, -1, 0, -1},
	})
	wantRefused(t, "var abcdefghijklmnop; abcdefghijklmno := 1;", api.ErrNone, 22)
	wantRefused(t, "var abcdefghijklmno; abcdefghijklmnop := 1;", api.ErrNone, 21)
}

// P4.1: what parse.Shape refuses, with its Errno and place.
func TestListsThatAreNoTrees(t *testing.T) {
	x := api.Node{Depth: 1, Kind: api.KVar, Name: "x"}
	set := api.Node{Depth: 1, Kind: api.KAssign, Name: "x"}
	one := api.Node{Depth: 2, Kind: api.KNum, Num: 1}
	skip := api.Node{Depth: 1, Kind: api.KSkip}
	not := func(depth int) api.Node { return api.Node{Depth: depth, Kind: api.KUnary, Op: api.OpNot} }
	deep := []api.Node{{Depth: 1, Kind: api.KAssert}}
	for d := 2; d <= 24; d++ {
		deep = append(deep, not(d))
	}
	deep = append(deep, api.Node{Depth: 25, Kind: api.KBool})
	for _, c := range []struct {
		ns   []api.Node
		code api.Errno
		at   int
	}{
		{[]api.Node{x, set}, api.ErrShape, 2},
		{[]api.Node{x, set, one, one}, api.ErrShape, 3},
		{[]api.Node{x, skip, x}, api.ErrShape, 2},
		{[]api.Node{{}}, api.ErrShape, 0},
		{[]api.Node{{Depth: 2, Kind: api.KSkip}}, api.ErrShape, 0},
		{[]api.Node{{Depth: 1, Kind: api.KVar, Name: "if"}}, api.ErrShape, 0},
		{[]api.Node{{Depth: 1, Kind: api.KVar, Name: "x", Op: api.OpAdd}}, api.ErrShape, 0},
		{[]api.Node{{Depth: 1, Kind: api.KArray, Name: "x", Num: -1}}, api.ErrShape, 0},
		{[]api.Node{skip, {Depth: math.MaxInt, Kind: math.MinInt, Name: "\xff", Num: -1, Op: math.MaxInt, At: -1}}, api.ErrShape, 1},
		{slices.Repeat([]api.Node{skip}, api.MaxNodes+1), api.ErrMany, 300},
		{slices.Repeat([]api.Node{{}}, api.MaxNodes+2), api.ErrMany, 300},
		{deep, api.ErrDeep, 24},
		// Whatever faults the nodes ahead have, the shape is asked first.
		{[]api.Node{x, x, set}, api.ErrShape, 3},
		{[]api.Node{set, {Depth: 2, Kind: api.KBool}, {}}, api.ErrShape, 2},
		{slices.Repeat([]api.Node{x}, api.MaxNodes+1), api.ErrMany, 300},
	} {
		p, err := Program(c.ns)
		wantFault(t, "P4.1: no tree", p, err, c.code, c.at)
		if Good(api.Prog{Nodes: c.ns}) {
			t.Errorf("P4.3: %v is Good", c.ns)
		}
	}
	p, err := Program(slices.Repeat([]api.Node{skip}, api.MaxNodes))
	if err != nil || len(p.Nodes) != api.MaxNodes || len(p.Symbols) != api.MaxNodes || len(p.SiteOf) != api.MaxNodes || !Good(p) {
		t.Errorf("P4.1: %d nodes: %v", api.MaxNodes, err)
	}
	deep[23] = api.Node{Depth: 24, Kind: api.KBool}
	if p, err = Program(deep[:24]); err != nil || !Good(p) {
		t.Errorf("P4.1: a Depth of 24: %v", err)
	}
}

// P4.2: what parse.Parse refuses, as it refuses it.
func TestTextsThatAreNoTrees(t *testing.T) {
	for _, c := range []struct {
		text string
		code api.Errno
		at   int
	}{
		{"x = 1;", api.ErrByte, 2},
		{"var x; x := 99999999999999999999;", api.ErrDigits, 12},
		{"var abcdefghijklmnopq;", api.ErrLong, 4},
		{strings.Repeat(" ", api.MaxSource+1), api.ErrLong, api.MaxSource},
		{"var x; x := 1", api.ErrWant, 13},
		{"var while;", api.ErrWant, 4},
		{"skip; var x;", api.ErrWant, 6},
		{"assert " + strings.Repeat("!", 23) + "true;", api.ErrDeep, 30},
		{strings.Repeat("skip;", 301), api.ErrMany, 1500},
		// Whatever faults the tree would have.
		{"var x; var x; x := ;", api.ErrWant, 19},
		{strings.Repeat("x:=1;", 151), api.ErrMany, 750},
	} {
		_, want := parse.Parse(c.text)
		p, err := Text(c.text)
		wantFault(t, "P4.2: Text("+strconv.Quote(c.text)+")", p, err, c.code, c.at)
		if !reflect.DeepEqual(err, want) {
			t.Errorf("P4.2: Text(%q): %v, Parse: %v", c.text, err, want)
		}
	}
	wantTaken(t, "assert "+strings.Repeat("!", 22)+"true;")
	wantTaken(t, strings.Repeat("skip;", 300))
	wantTaken(t, "var x;"+strings.Repeat(" ", api.MaxSource-6))
}

// P4.1, P4.2: places are those of the nodes, whatever they are; numbers are counted.
func TestPlacesAndNumbers(t *testing.T) {
	x := api.Node{Depth: 1, Kind: api.KVar, Name: "x", At: 50}
	again := x
	for _, at := range []int{60, 0, -1, math.MinInt, math.MaxInt} {
		again.At = at
		p, err := Program([]api.Node{x, again})
		wantFault(t, "P4.1: x twice", p, err, api.ErrTwice, 1)
	}
	p, err := Program([]api.Node{x})
	if err != nil || p.Nodes[0].At != 50 {
		t.Errorf("P4.1: the node's At is lost: %v, %v", p, err)
	}
	wantRefused(t, "\n var x ; # var x;\n\tvar  x;", api.ErrTwice, 20)
	wantRefused(t, "var x; x := ((1)) + ((2 == ((3))));", api.ErrSort, 24)
}
