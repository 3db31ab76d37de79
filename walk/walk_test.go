package walk

import (
	"math"
	"reflect"
	"slices"
	"strings"
	"testing"

	"winnow/api"
	"winnow/cfg"
	"winnow/check"
)

const (
	asks   = "var x; input x; assert x != 3;"
	counts = "var x; while x < 2 { x := x + 1; }"
)

// everyKind is a program in which each kind of node stands, and which reads two numbers in ten steps.
const everyKind = "var x; array a[2]; x := 1; a[x] := -x; input x; assert !true || x < 1; skip;" +
	"if x == 1 { skip; } else { x := a[1]; } while x < 0 { input x; }"

func mustText(t *testing.T, text string) api.Prog {
	t.Helper()
	p, err := check.Text(text)
	if err != nil {
		t.Fatalf("Text(%q) is refused: %v", text, err)
	}
	return p
}

// storeOf makes a store of numbers and lists.
func storeOf(vars []int64, arrays ...[]int64) api.Store {
	return api.Store{Vars: vars, Arrays: arrays}
}

func halt(steps, reads int) api.Outcome {
	return api.Outcome{Kind: api.Halt, Site: -1, Steps: steps, Reads: reads}
}

func faulted(site, steps, reads int) api.Outcome {
	return api.Outcome{Kind: api.Faulted, Site: site, Steps: steps, Reads: reads}
}

func exhausted(steps, reads int) api.Outcome {
	return api.Outcome{Kind: api.Exhausted, Site: -1, Steps: steps, Reads: reads}
}

func outOfFuel(steps, reads int) api.Outcome {
	return api.Outcome{Kind: api.OutOfFuel, Site: -1, Steps: steps, Reads: reads}
}

func sameStore(s, u api.Store) bool {
	return slices.Equal(s.Vars, u.Vars) && slices.EqualFunc(s.Arrays, u.Arrays, slices.Equal)
}

// stop is what an iterator gives at one look.
type stop struct {
	node  int
	store api.Store
}

func sameStop(s, u stop) bool { return s.node == u.node && sameStore(s.store, u.store) }

// collect gives all stops of an iterator.
func collect(seq func(yield func(int, api.Store) bool)) []stop {
	var list []stop
	for node, store := range seq {
		list = append(list, stop{node, store})
	}
	return list
}

func nodes(stops []stop) []int {
	var list []int
	for _, s := range stops {
		list = append(list, s.node)
	}
	return list
}

// wantRun holds a run against its outcome, its last store, the edges that it goes and the nodes of its looks.
func wantRun(t *testing.T, text string, tape []int64, fuel int, want api.Outcome, last api.Store, path, looks []int) {
	t.Helper()
	p := mustText(t, text)
	if out, s, code := Run(p, tape, fuel); out != want || !sameStore(s, last) || code != api.OK {
		t.Errorf("P9.1: Run of %q on %v with %d = %v, %v, %v, want %v, %v", text, tape, fuel, out, s, code, want, last)
	}
	if got, code := Path(p, tape, fuel); !slices.Equal(got, path) || code != api.OK {
		t.Errorf("P9.2: Path of %q on %v with %d = %v, %v, want %v", text, tape, fuel, got, code, path)
	}
	stops := collect(Stops(p, tape, fuel))
	if !slices.Equal(nodes(stops), looks) {
		t.Errorf("P9.3: %q on %v with %d stops at %v, want %v", text, tape, fuel, nodes(stops), looks)
	} else if end := stops[len(stops)-1].store; !sameStore(end, last) {
		t.Errorf("P9.3: %q on %v with %d: the last store is %v, want %v", text, tape, fuel, end, last)
	}
	wantWalk(t, p, tape, fuel, want)
}

// wantWalk holds Path and Stops against the graph: an unbroken walk from the entry, one edge for each step that doesn't fault, and the stops are the nodes on it.
func wantWalk(t *testing.T, p api.Prog, tape []int64, fuel int, want api.Outcome) {
	t.Helper()
	graph, _ := cfg.Lower(p)
	path, _ := Path(p, tape, fuel)
	looks := nodes(collect(Stops(p, tape, fuel)))
	steps := want.Steps
	if want.Kind == api.Faulted {
		steps--
	}
	if len(path) != steps || len(looks) != steps+1 {
		t.Errorf("P9.2: %v on %v: %d edges and %d stops, want %d steps", want, tape, len(path), len(looks), steps)
		return
	}
	at := 0
	for i, edge := range path {
		if looks[i] != at || edge < 0 || edge >= len(graph.Edges) || graph.Edges[edge].From != at {
			t.Errorf("P9.4: the edge %d of %v doesn't begin at %d (stops %v)", i, path, at, looks)
			return
		}
		at = graph.Edges[edge].To
	}
	if looks[steps] != at || (at == graph.Exit) != (want.Kind == api.Halt) {
		t.Errorf("P9.4: %v ends at %d, the last stop is %d, the exit %d: %v", path, at, looks[steps], graph.Exit, want)
	}
}

// The chapter's examples.
func TestExamples(t *testing.T) {
	x := func(v int64) api.Store { return storeOf([]int64{v}) }
	wantRun(t, asks, []int64{4}, 9, halt(2, 1), x(4), []int{0, 1}, []int{0, 1, 2})
	wantRun(t, asks, []int64{3}, 9, faulted(0, 2, 1), x(3), []int{0}, []int{0, 1})
	wantRun(t, asks, nil, 9, exhausted(0, 0), x(0), nil, []int{0})
	wantRun(t, counts, nil, 99, halt(5, 0), x(2), []int{0, 2, 0, 2, 1}, []int{0, 1, 0, 1, 0, 2})
	wantRun(t, counts, nil, 2, outOfFuel(2, 0), x(1), []int{0, 2}, []int{0, 1, 0})
	p := mustText(t, asks)
	wantNone(t, "fuel -1", p, -1, api.ErrArg)
	p.Scalars = nil
	wantNone(t, "no Prog", p, 9, api.ErrPut)
}

// P9.3: the stops of the chapter's example, each with its store.
func TestStopsOfTheExample(t *testing.T) {
	p := mustText(t, asks)
	at := func(node int, x int64) stop { return stop{node, storeOf([]int64{x})} }
	for _, c := range []struct {
		tape []int64
		want []stop
	}{
		{[]int64{4}, []stop{at(0, 0), at(1, 4), at(2, 4)}},
		{[]int64{3}, []stop{at(0, 0), at(1, 3)}},
		{nil, []stop{at(0, 0)}},
	} {
		if got := collect(Stops(p, c.tape, 9)); !slices.EqualFunc(got, c.want, sameStop) {
			t.Errorf("P9.3: the stops on %v are %v, want %v", c.tape, got, c.want)
		}
	}
}

// wantNone holds a refusal: its number, zeros beside it, and no stop.
func wantNone(t *testing.T, what string, p api.Prog, fuel int, want api.Errno) {
	t.Helper()
	for _, tape := range [][]int64{nil, {}, {1, 2, 3}} {
		out, s, code := Run(p, tape, fuel)
		if out != (api.Outcome{}) || !reflect.DeepEqual(s, api.Store{}) || code != want {
			t.Errorf("P9.1: %s: Run = %v, %v, %v, want %v", what, out, s, code, want)
		}
		if path, code := Path(p, tape, fuel); path != nil || code != want {
			t.Errorf("P9.2: %s: Path = %v, %v, want %v", what, path, code, want)
		}
		seq := Stops(p, tape, fuel)
		if seq == nil {
			t.Fatalf("P9.3: %s: the iterator is nil", what)
		}
		for range 2 {
			for node, s := range seq {
				t.Errorf("P9.3: %s: a stop %d, %v", what, node, s)
			}
		}
	}
}

// P9.1 to P9.3: the edges of fuel.
func TestFuelThatMayNotBe(t *testing.T) {
	for _, text := range []string{"", "var x;", asks, counts, everyKind} {
		p := mustText(t, text)
		for _, fuel := range []int{math.MinInt, -5000, -1, api.MaxFuel + 1, 1 << 33, math.MaxInt} {
			wantNone(t, text, p, fuel, api.ErrArg)
		}
		for _, fuel := range []int{0, 1, api.MaxFuel - 1, api.MaxFuel} {
			_, _, ran := Run(p, nil, fuel)
			_, walked := Path(p, nil, fuel)
			if ran != api.OK || walked != api.OK || len(collect(Stops(p, nil, fuel))) == 0 {
				t.Errorf("P9.1: %q is refused with %d", text, fuel)
			}
		}
	}
}

// P9.1 to P9.3: a Prog that Good refuses, by each of its lists, goes ahead of a fuel that may not be.
func TestProgThatIsNone(t *testing.T) {
	spoil := map[string]func(p *api.Prog){
		"no nodes":           func(p *api.Prog) { p.Nodes = nil },
		"a node less":        func(p *api.Prog) { p.Nodes = p.Nodes[:len(p.Nodes)-1] },
		"too many nodes":     func(p *api.Prog) { p.Nodes = make([]api.Node, 1000) },
		"another scalar":     func(p *api.Prog) { p.Scalars[0] = "y" },
		"no scalar":          func(p *api.Prog) { p.Scalars = nil },
		"a scalar more":      func(p *api.Prog) { p.Scalars = append(p.Scalars, "y") },
		"an array below 0":   func(p *api.Prog) { p.Arrays[0].Len = -1 },
		"another array":      func(p *api.Prog) { p.Arrays[0].Name = "b" },
		"no array":           func(p *api.Prog) { p.Arrays = nil },
		"a symbol too great": func(p *api.Prog) { p.Symbols[2] = 7 },
		"no symbols":         func(p *api.Prog) { p.Symbols = nil },
		"another site":       func(p *api.Prog) { p.SiteOf[4] = 9 },
		"no site of a node":  func(p *api.Prog) { p.SiteOf = nil },
		"no sites":           func(p *api.Prog) { p.Sites = nil },
		"another node":       func(p *api.Prog) { p.Sites[0]++ },
		"no kind":            func(p *api.Prog) { p.Nodes[4].Kind = 99 },
		"a depth":            func(p *api.Prog) { p.Nodes[2].Depth = -1 },
		"a statement's name": func(p *api.Prog) { p.Nodes[2].Name = "q" },
	}
	for what, change := range spoil {
		p := mustText(t, everyKind)
		change(&p)
		if check.Good(p) {
			t.Fatalf("%s: the Prog is still good", what)
		}
		for _, fuel := range []int{math.MinInt, -1, 0, 1, 9, api.MaxFuel, api.MaxFuel + 1, math.MaxInt} {
			wantNone(t, what, p, fuel, api.ErrPut)
		}
	}
	wantNone(t, "no program", api.Prog{Scalars: []string{"x"}}, 9, api.ErrPut)
}

// P9.1 to P9.3: a program of no statement ends where it begins, whatever the fuel.
func TestNoStatement(t *testing.T) {
	for _, fuel := range []int{0, 1, api.MaxFuel} {
		for _, tape := range [][]int64{nil, {5}} {
			wantRun(t, "", tape, fuel, halt(0, 0), api.Store{}, nil, []int{0})
			wantRun(t, "var x; array a[1];", tape, fuel, halt(0, 0), storeOf([]int64{0}, []int64{0}), nil, []int{0})
		}
	}
	if out, s, code := Run(api.Prog{}, []int64{5}, 0); out != halt(0, 0) || !sameStore(s, api.Store{}) || code != api.OK {
		t.Errorf("P9.1: Run of the zero Prog = %v, %v, %v", out, s, code)
	}
	if path, code := Path(api.Prog{}, []int64{5}, 0); len(path) != 0 || code != api.OK {
		t.Errorf("P9.2: Path of the zero Prog = %v, %v", path, code)
	}
	if stops := collect(Stops(api.Prog{}, []int64{5}, 0)); len(stops) != 1 || !sameStop(stops[0], stop{}) {
		t.Errorf("P9.3: the stops of the zero Prog are %v", stops)
	}
}

// P9.1 to P9.3: each Op as the only step: with just its fuel, with one less, and with more. A step that faults is counted, goes no edge and leaves the store.
func TestFuelAtEachOp(t *testing.T) {
	declared := "var x; array a[2]; "
	zeros := storeOf([]int64{0}, []int64{0, 0})
	for _, c := range []struct {
		text string
		want api.Outcome
		last api.Store
		path []int
	}{
		{"x := 5;", halt(1, 0), storeOf([]int64{5}, []int64{0, 0}), []int{0}},
		{"a[1] := 5;", halt(1, 0), storeOf([]int64{0}, []int64{0, 5}), []int{0}},
		{"input x;", halt(1, 1), storeOf([]int64{7}, []int64{0, 0}), []int{0}},
		{"assert x == 0;", halt(1, 0), zeros, []int{0}},
		{"skip;", halt(1, 0), zeros, []int{0}},
		{"if x == 0 { }", halt(1, 0), zeros, []int{0}},
		{"if x == 1 { }", halt(1, 0), zeros, []int{1}},
		{"if x == 0 { } else { }", halt(1, 0), zeros, []int{0}},
		{"if x == 1 { } else { }", halt(1, 0), zeros, []int{1}},
		{"while x == 1 { }", halt(1, 0), zeros, []int{1}},
		{"x := 1 / x;", faulted(0, 1, 0), zeros, nil},
		{"x := a[2];", faulted(0, 1, 0), zeros, nil},
		{"a[2] := 5;", faulted(0, 1, 0), zeros, nil},
		{"a[1] := 5 % x;", faulted(1, 1, 0), zeros, nil},
		{"a[2] := 5 % x;", faulted(0, 1, 0), zeros, nil},
		{"a[1 / x] := 5 % x;", faulted(1, 1, 0), zeros, nil},
		{"assert x == 1;", faulted(0, 1, 0), zeros, nil},
		{"assert 1 / x == 1;", faulted(1, 1, 0), zeros, nil},
		{"if a[2] == 1 { } else { }", faulted(0, 1, 0), zeros, nil},
		{"if !(a[0 - 1] == 1) { }", faulted(0, 1, 0), zeros, nil},
		{"while 1 % x == 1 { }", faulted(0, 1, 0), zeros, nil},
		{"while x < 1 || 1 / x == 1 { x := x / x; }", faulted(1, 2, 0), zeros, []int{0}},
	} {
		tape := []int64{7, 8}
		looks := []int{0}
		graph, _ := cfg.Lower(mustText(t, declared+c.text))
		for _, edge := range c.path {
			looks = append(looks, graph.Edges[edge].To)
		}
		wantRun(t, declared+c.text, tape, 0, outOfFuel(0, 0), zeros, nil, []int{0})
		for _, fuel := range []int{c.want.Steps, c.want.Steps + 1, api.MaxFuel} {
			wantRun(t, declared+c.text, tape, fuel, c.want, c.last, c.path, looks)
		}
		// The same holds behind a step that was made, with all numbers one greater.
		later, path, nodes := c.want, []int{0}, []int{0}
		later.Steps++
		for _, edge := range c.path {
			path = append(path, edge+1)
		}
		for _, node := range looks {
			nodes = append(nodes, node+1)
		}
		wantRun(t, declared+"skip; "+c.text, tape, 1, outOfFuel(1, 0), zeros, []int{0}, []int{0, 1})
		wantRun(t, declared+"skip; "+c.text, tape, later.Steps, later, c.last, path, nodes)
	}
}

// P9.1 to P9.3: faults on the way, with just the fuel that they need, with more and with one less.
func TestFaults(t *testing.T) {
	declared := "var x; var y; array a[2]; "
	for _, c := range []struct {
		text string
		tape []int64
		want api.Outcome
		last api.Store
		path []int
	}{
		{"x := 4; x := 1 / y; x := 5;", nil, faulted(0, 2, 0), storeOf([]int64{4, 0}, []int64{0, 0}), []int{0}},
		{"a[0] := 3; a[1] := a[0] / y;", nil, faulted(2, 2, 0), storeOf([]int64{0, 0}, []int64{3, 0}), []int{0}},
		{"a[0] := 3; a[a[0]] := 8;", nil, faulted(1, 2, 0), storeOf([]int64{0, 0}, []int64{3, 0}), []int{0}},
		{"a[2] := 1 / y;", nil, faulted(0, 1, 0), storeOf([]int64{0, 0}, []int64{0, 0}), nil},
		{"input x; input y; assert x < y; skip;", []int64{6, 5, 4}, faulted(0, 3, 2), storeOf([]int64{6, 5}, []int64{0, 0}), []int{0, 1}},
		{"x := 1; if 1 / y == 0 { x := 2; } else { x := 3; } x := 4;", nil, faulted(0, 2, 0), storeOf([]int64{1, 0}, []int64{0, 0}), []int{0}},
		{"x := 2; while 6 / x > 0 { x := x - 1; } skip;", nil, faulted(0, 6, 0), storeOf([]int64{0, 0}, []int64{0, 0}), []int{0, 1, 3, 1, 3}},
		{"while a[x] == 0 { a[x] := x + 1; x := x + 1; }", nil, faulted(0, 7, 0), storeOf([]int64{2, 0}, []int64{1, 2}), []int{0, 2, 3, 0, 2, 3}},
		{"while true { x := x + 1; if x == 2 { assert false; } }", nil, faulted(0, 7, 0), storeOf([]int64{2, 0}, []int64{0, 0}), []int{0, 2, 4, 0, 2, 3}},
		{"while true { input x; y := y + 10 / x; }", []int64{5, 2, 0, 1}, faulted(0, 9, 3), storeOf([]int64{0, 7}, []int64{0, 0}), []int{0, 2, 3, 0, 2, 3, 0, 2}},
		{"assert true; assert x / 1 == 0; assert 2 < 1;", nil, faulted(3, 3, 0), storeOf([]int64{0, 0}, []int64{0, 0}), []int{0, 1}},
	} {
		graph, _ := cfg.Lower(mustText(t, declared+c.text))
		looks := []int{0}
		for _, edge := range c.path {
			looks = append(looks, graph.Edges[edge].To)
		}
		for _, fuel := range []int{c.want.Steps, c.want.Steps + 1, api.MaxFuel} {
			wantRun(t, declared+c.text, c.tape, fuel, c.want, c.last, c.path, looks)
		}
		// With one less the step isn't made: nothing faults, but the walk is the same.
		short := outOfFuel(c.want.Steps-1, c.want.Reads)
		wantRun(t, declared+c.text, c.tape, short.Steps, short, c.last, c.path, looks)
	}
}

// P9.1 to P9.3: blocks: empty, absent, nested, and what comes behind them; the fuel used up just where the program ends, and one step ahead of it.
func TestBlocks(t *testing.T) {
	for _, c := range []struct {
		text  string
		last  int64
		path  []int
		looks []int
	}{
		{"skip; skip; skip;", 0, []int{0, 1, 2}, []int{0, 1, 2, 3}},
		{"if true { x := 1; }", 1, []int{0, 2}, []int{0, 1, 2}},
		{"if false { x := 1; }", 0, []int{1}, []int{0, 2}},
		{"if false { x := 1; } x := x + 2;", 2, []int{1, 3}, []int{0, 2, 3}},
		{"if true { x := 1; } x := x + 2;", 3, []int{0, 2, 3}, []int{0, 1, 2, 3}},
		{"if true { x := 1; } else { x := 2; }", 1, []int{0, 2}, []int{0, 1, 3}},
		{"if false { x := 1; } else { x := 2; }", 2, []int{1, 3}, []int{0, 2, 3}},
		{"if true { } else { x := 2; } skip;", 0, []int{0, 3}, []int{0, 2, 3}},
		{"if false { x := 1; } else { } skip;", 0, []int{1, 3}, []int{0, 2, 3}},
		{"if false { } else { x := 2; x := 3; } skip;", 3, []int{1, 2, 3, 4}, []int{0, 1, 2, 3, 4}},
		{"while false { x := 1; }", 0, []int{1}, []int{0, 2}},
		{"while false { } skip;", 0, []int{1, 2}, []int{0, 1, 2}},
		{"while x < 1 { skip; x := x + 1; skip; } skip;", 1, []int{0, 2, 3, 4, 1, 5}, []int{0, 1, 2, 3, 0, 4, 5}},
		// An else goes with the if whose first block it stands behind.
		{"if true { if false { x := 1; } } else { x := 2; }", 0, []int{0, 3}, []int{0, 1, 4}},
		{"if true { if false { x := 1; } else { x := 2; } }", 2, []int{0, 3, 5}, []int{0, 1, 3, 4}},
		{"if false { if true { x := 1; } } else { x := 2; }", 2, []int{1, 5}, []int{0, 3, 4}},
		{"if true { if true { if true { } } } x := 9;", 9, []int{0, 2, 4, 6}, []int{0, 1, 2, 3, 4}},
		// A block of a while leads back to it, however deep the last statement stands.
		{"while x < 2 { if x == 0 { x := 1; } else { x := 2; } }", 2, []int{0, 2, 4, 0, 3, 5, 1}, []int{0, 1, 2, 0, 1, 3, 0, 4}},
		{"while x < 1 { if false { } x := x + 1; if true { } }", 1, []int{0, 3, 4, 5, 1}, []int{0, 1, 2, 3, 0, 4}},
		{"while x < 1 { while x < 1 { x := x + 1; } }", 1, []int{0, 2, 4, 3, 1}, []int{0, 1, 2, 1, 0, 3}},
		{"while x < 4 { while x % 2 == 0 { x := x + 1; } x := x + 1; } skip;", 4, []int{0, 2, 4, 3, 5, 0, 2, 4, 3, 5, 1, 6}, []int{0, 1, 2, 1, 3, 0, 1, 2, 1, 3, 0, 4, 5}},
	} {
		want := halt(len(c.path), 0)
		last := storeOf([]int64{c.last})
		text := "var x; " + c.text
		wantRun(t, text, nil, 99, want, last, c.path, c.looks)
		wantRun(t, text, nil, want.Steps, want, last, c.path, c.looks)
		for fuel := range want.Steps {
			p := mustText(t, text)
			if out, _, code := Run(p, nil, fuel); out != outOfFuel(fuel, 0) || code != api.OK {
				t.Errorf("P9.1: %q with %d = %v, %v", text, fuel, out, code)
			}
			if got, _ := Path(p, nil, fuel); !slices.Equal(got, c.path[:fuel]) {
				t.Errorf("P9.2: %q with %d = %v, want %v", text, fuel, got, c.path[:fuel])
			}
			if got := nodes(collect(Stops(p, nil, fuel))); !slices.Equal(got, c.looks[:fuel+1]) {
				t.Errorf("P9.3: %q with %d stops at %v, want %v", text, fuel, got, c.looks[:fuel+1])
			}
		}
	}
}

// P9.1 to P9.3: tapes that are empty, too short, just long enough and too long.
func TestTapes(t *testing.T) {
	text := "var x; var y; input x; skip; input y; input x;"
	for _, tape := range [][]int64{nil, {}, make([]int64, 0, 5)} {
		wantRun(t, text, tape, 9, exhausted(0, 0), storeOf([]int64{0, 0}), nil, []int{0})
		wantRun(t, text, tape, 0, outOfFuel(0, 0), storeOf([]int64{0, 0}), nil, []int{0})
	}
	for _, fuel := range []int{3, 4, 9} {
		wantRun(t, text, []int64{7}, fuel, exhausted(2, 1), storeOf([]int64{7, 0}), []int{0, 1}, []int{0, 1, 2})
	}
	// The fuel is looked at ahead of the tape.
	wantRun(t, text, []int64{7}, 2, outOfFuel(2, 1), storeOf([]int64{7, 0}), []int{0, 1}, []int{0, 1, 2})
	wantRun(t, text, []int64{7, math.MinInt64}, 9, exhausted(3, 2), storeOf([]int64{7, math.MinInt64}), []int{0, 1, 2}, []int{0, 1, 2, 3})
	for _, behind := range [][]int64{nil, {1}, {math.MaxInt64, 2}, make([]int64, 9000)} {
		tape := append([]int64{7, math.MinInt64, math.MaxInt64}, behind...)
		wantRun(t, text, tape, 9, halt(4, 3), storeOf([]int64{math.MaxInt64, math.MinInt64}), []int{0, 1, 2, 3}, []int{0, 1, 2, 3, 4})
		wantRun(t, text, tape, 4, halt(4, 3), storeOf([]int64{math.MaxInt64, math.MinInt64}), []int{0, 1, 2, 3}, []int{0, 1, 2, 3, 4})
		wantRun(t, text, tape, 3, outOfFuel(3, 2), storeOf([]int64{7, math.MinInt64}), []int{0, 1, 2}, []int{0, 1, 2, 3})
		wantRun(t, "var x; var y; skip;", tape, 9, halt(1, 0), storeOf([]int64{0, 0}), []int{0}, []int{0, 1})
	}
	// What is behind the length of a tape isn't on it.
	long := []int64{7, 8, 9}
	wantRun(t, text, long[:1], 9, exhausted(2, 1), storeOf([]int64{7, 0}), []int{0, 1}, []int{0, 1, 2})
}

// P9.1 to P9.3: as many inputs as there may be, the fuel and the tape used up at the same time, or one of them ahead.
func TestInputsWithoutEnd(t *testing.T) {
	p := mustText(t, "var x; while true { input x; }")
	tape := make([]int64, 2501)
	for i := range tape {
		tape[i] = int64(i + 1)
	}
	for _, c := range []struct {
		length, fuel int
		want         api.Outcome
	}{
		{2500, 5000, outOfFuel(5000, 2500)}, {2501, 5000, outOfFuel(5000, 2500)}, {2499, 5000, exhausted(4999, 2499)}, {2499, 4999, outOfFuel(4999, 2499)},
		{2, 5, outOfFuel(5, 2)}, {2, 6, exhausted(5, 2)}, {3, 6, outOfFuel(6, 3)}, {0, 1, outOfFuel(1, 0)}, {0, 2, exhausted(1, 0)},
	} {
		out, s, code := Run(p, tape[:c.length], c.fuel)
		if out != c.want || s.Vars[0] != int64(c.want.Reads) || code != api.OK {
			t.Errorf("P9.1: %d numbers, fuel %d: %v, %v, %v, want %v", c.length, c.fuel, out, s, code, c.want)
		}
		wantWalk(t, p, tape[:c.length], c.fuel, c.want)
	}
	// Inputs alone, one a step: the fuel bounds what is read of the tape.
	all := mustText(t, "var x; "+strings.Repeat("input x; ", 9))
	for fuel := range 12 {
		want := outOfFuel(fuel, fuel)
		if fuel >= 9 {
			want = halt(9, 9)
		}
		if out, s, _ := Run(all, tape, fuel); out != want || s.Vars[0] != int64(want.Reads) {
			t.Errorf("P9.1: inputs with %d = %v, %v", fuel, out, s)
		}
		for node, s := range Stops(all, tape, fuel) {
			if s.Vars[0] != int64(node) {
				t.Errorf("P9.3: inputs with %d stop at %d with %v", fuel, node, s)
			}
		}
	}
}

// P9.3: each Op, and what it leaves in the stops behind it.
func TestStopsOfEachOp(t *testing.T) {
	p := mustText(t, everyKind)
	at := func(node int, x, first, second int64) stop {
		return stop{node, storeOf([]int64{x}, []int64{first, second})}
	}
	want := []stop{
		at(0, 0, 0, 0), at(1, 1, 0, 0), at(2, 1, 0, -1), at(3, -5, 0, -1), at(4, -5, 0, -1),
		at(5, -5, 0, -1), at(7, -5, 0, -1), at(8, -1, 0, -1), at(9, -1, 0, -1), at(8, 6, 0, -1), at(10, 6, 0, -1),
	}
	path := []int{0, 1, 2, 3, 4, 6, 8, 9, 11, 10}
	for fuel := range 13 {
		if got := collect(Stops(p, []int64{-5, 6, 9}, fuel)); !slices.EqualFunc(got, want[:min(fuel+1, len(want))], sameStop) {
			t.Errorf("P9.3: with %d the stops are %v", fuel, got)
		}
		if got, code := Path(p, []int64{-5, 6, 9}, fuel); !slices.Equal(got, path[:min(fuel, len(path))]) || code != api.OK {
			t.Errorf("P9.2: with %d the path is %v, %v", fuel, got, code)
		}
	}
	seen := map[api.EdgeOp]bool{}
	graph, _ := cfg.Lower(p)
	for _, edge := range path {
		seen[graph.Edges[edge].Op] = true
	}
	if len(seen) != int(api.EAssume)+1 {
		t.Errorf("only %d Ops are on the path", len(seen))
	}
}

// P9.1, P9.2: the greatest fuel, just used up, the deepest blocks and the longest program that there may be.
func TestGreatRuns(t *testing.T) {
	// Each round has two steps; the condition is evaluated once more at the end.
	p := mustText(t, "var x; skip; while x < 2499 { x := x + 1; }")
	if out, s, code := Run(p, nil, 5000); out != halt(5000, 0) || s.Vars[0] != 2499 || code != api.OK {
		t.Errorf("P9.1: with 5000 = %v, %v, %v", out, s, code)
	}
	wantWalk(t, p, nil, 5000, halt(5000, 0))
	if out, s, code := Run(p, nil, 4999); out != outOfFuel(4999, 0) || s.Vars[0] != 2499 || code != api.OK {
		t.Errorf("P9.1: with 4999 = %v, %v, %v", out, s, code)
	}
	forever := mustText(t, "while true { }")
	if out, _, code := Run(forever, nil, 5000); out != outOfFuel(5000, 0) || code != api.OK {
		t.Errorf("P9.1: a loop without end = %v, %v", out, code)
	}
	if path, _ := Path(forever, nil, 5000); len(path) != 5000 || slices.Max(path) != 0 {
		t.Errorf("P9.2: a loop without end goes %d edges", len(path))
	}
	// A statement of the program has Depth 1, and each block puts one two deeper.
	levels := (api.MaxNest - 2) / 2
	loops := mustText(t, "var x; "+strings.Repeat("while x < 1 { ", levels)+"x := 1; "+strings.Repeat("} ", levels)+"x := 2;")
	if out, s, _ := Run(loops, nil, 99); out != halt(2*levels+2, 0) || s.Vars[0] != 2 {
		t.Errorf("P9.1: deep loops = %v, %v", out, s)
	}
	wantWalk(t, loops, nil, 99, halt(2*levels+2, 0))
	long := mustText(t, strings.Repeat("skip; ", api.MaxNodes))
	if out, _, _ := Run(long, nil, api.MaxFuel); out != halt(api.MaxNodes, 0) {
		t.Errorf("P9.1: a long program = %v", out)
	}
	wantWalk(t, long, nil, api.MaxFuel, halt(api.MaxNodes, 0))
}
