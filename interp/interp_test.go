package interp

import (
	"math"
	"reflect"
	"slices"
	"strings"
	"testing"

	"winnow/api"
	"winnow/check"
)

const (
	asks   = "var x; input x; assert x != 3;"
	counts = "var x; while x < 2 { x := x + 1; }"
)

// everyKind is a program in which each kind of node stands, and which reads two numbers in ten steps.
const everyKind = "var x; array a[2]; x := 1; a[x] := -x; input x; assert !true || x < 1; skip;" +
	"if x == 1 { skip; } else { x := a[1]; } while x < 0 { input x; }"

func mustText(t *testing.T, text string) api.Prog {
	t.Helper()
	p, err := check.Text(text)
	if err != nil {
		t.Fatalf("Text(%q) is refused: %v", text, err)
	}
	return p
}

// storeOf makes a store of numbers and lists.
func storeOf(vars []int64, arrays ...[]int64) api.Store {
	return api.Store{Vars: vars, Arrays: arrays}
}

func halt(steps, reads int) api.Outcome {
	return api.Outcome{Kind: api.Halt, Site: -1, Steps: steps, Reads: reads}
}

func faulted(site, steps, reads int) api.Outcome {
	return api.Outcome{Kind: api.Faulted, Site: site, Steps: steps, Reads: reads}
}

func exhausted(steps, reads int) api.Outcome {
	return api.Outcome{Kind: api.Exhausted, Site: -1, Steps: steps, Reads: reads}
}

func outOfFuel(steps, reads int) api.Outcome {
	return api.Outcome{Kind: api.OutOfFuel, Site: -1, Steps: steps, Reads: reads}
}

func sameStore(s, u api.Store) bool {
	return slices.Equal(s.Vars, u.Vars) && slices.EqualFunc(s.Arrays, u.Arrays, slices.Equal)
}

func sameMoment(m, n api.Moment) bool {
	return m.Place == n.Place && m.Steps == n.Steps && m.Reads == n.Reads && sameStore(m.Store, n.Store)
}

// moments are all that an iterator over them gives.
func moments(p api.Prog, tape []int64, fuel int) []api.Moment {
	return slices.Collect(Moments(p, tape, fuel))
}

func places(ms []api.Moment) []int {
	var list []int
	for _, m := range ms {
		list = append(list, m.Place)
	}
	return list
}

// wantRun holds a run against its outcome, its last store and the statements of its looks.
func wantRun(t *testing.T, text string, tape []int64, fuel int, want api.Outcome, last api.Store, looks ...int) {
	t.Helper()
	p := mustText(t, text)
	if out, s, code := Run(p, tape, fuel); out != want || !sameStore(s, last) || code != api.OK {
		t.Errorf("P7.1: Run of %q on %v with %d = %v, %v, %v, want %v, %v", text, tape, fuel, out, s, code, want, last)
	}
	ms := moments(p, tape, fuel)
	if !slices.Equal(places(ms), looks) {
		t.Errorf("P7.2: %q on %v with %d looks at %v, want %v", text, tape, fuel, places(ms), looks)
	}
	wantWhole(t, text, ms, want, last)
}

// wantWhole holds the moments of a run against how it ended.
func wantWhole(t *testing.T, what string, ms []api.Moment, want api.Outcome, last api.Store) {
	t.Helper()
	number := want.Steps + 1
	if want.Kind == api.Faulted {
		number--
	}
	if len(ms) != number {
		t.Errorf("P7.2: %s: %d moments, want %d", what, len(ms), number)
		return
	}
	for i, m := range ms {
		if m.Steps != i || m.Reads > i || m.Reads > want.Reads {
			t.Errorf("P7.2: %s: the moment %d is %v", what, i, m)
		}
		if over := m.Place < 0; over != (want.Kind == api.Halt && i == number-1) || m.Place < -1 {
			t.Errorf("P7.2: %s: the moment %d has the place %d", what, i, m.Place)
		}
	}
	if end := ms[number-1]; end.Reads != want.Reads || !sameStore(end.Store, last) {
		t.Errorf("P7.2: %s: the last moment is %v, want %d reads and %v", what, end, want.Reads, last)
	}
}

// The chapter's examples.
func TestExamples(t *testing.T) {
	x := func(v int64) api.Store { return storeOf([]int64{v}) }
	wantRun(t, asks, []int64{3}, 9, faulted(0, 2, 1), x(3), 1, 2)
	wantRun(t, asks, []int64{4}, 9, halt(2, 1), x(4), 1, 2, -1)
	wantRun(t, asks, nil, 9, exhausted(0, 0), x(0), 1)
	wantRun(t, asks, []int64{4}, 1, outOfFuel(1, 1), x(4), 1, 2)
	wantRun(t, asks, []int64{4}, 2, halt(2, 1), x(4), 1, 2, -1)
	wantRun(t, counts, nil, 99, halt(5, 0), x(2), 1, 6, 1, 6, 1, -1)
	wantRun(t, "var x; if x > 0 { skip; } else { }", nil, 99, halt(1, 0), x(0), 1, -1)
	for _, fuel := range []int{0, 1, api.MaxFuel} {
		wantRun(t, "", nil, fuel, halt(0, 0), api.Store{}, -1)
		wantRun(t, "var x;", nil, fuel, halt(0, 0), x(0), -1)
	}
	forever := mustText(t, "while true { }")
	if out, _, code := Run(forever, nil, 5000); out != outOfFuel(5000, 0) || code != api.OK {
		t.Errorf("P7.1: Run of a loop without end = %v, %v", out, code)
	}
	wantNone(t, "fuel 5001", forever, 5001, api.ErrArg)
	for _, fuel := range []int{1, 2, 9, api.MaxFuel} {
		wantRun(t, "var x; x := 1 / x; skip;", nil, fuel, faulted(0, 1, 0), x(0), 1)
	}
	wantRun(t, "var x; x := 1 / x; skip;", nil, 0, outOfFuel(0, 0), x(0), 1)
}

// P7.2: the moments of the chapter's example, each with its store.
func TestMomentsOfTheExample(t *testing.T) {
	p := mustText(t, asks)
	at := func(place, steps, reads int, x int64) api.Moment {
		return api.Moment{Place: place, Steps: steps, Reads: reads, Store: storeOf([]int64{x})}
	}
	for _, c := range []struct {
		tape []int64
		want []api.Moment
	}{
		{[]int64{4}, []api.Moment{at(1, 0, 0, 0), at(2, 1, 1, 4), at(-1, 2, 1, 4)}},
		{[]int64{3}, []api.Moment{at(1, 0, 0, 0), at(2, 1, 1, 3)}},
		{nil, []api.Moment{at(1, 0, 0, 0)}},
	} {
		if got := moments(p, c.tape, 9); !slices.EqualFunc(got, c.want, sameMoment) {
			t.Errorf("P7.2: the moments on %v are %v, want %v", c.tape, got, c.want)
		}
	}
}

// wantNone holds a refusal: its number, zeros beside it, and no moment.
func wantNone(t *testing.T, what string, p api.Prog, fuel int, want api.Errno) {
	t.Helper()
	for _, tape := range [][]int64{nil, {}, {1, 2, 3}} {
		out, s, code := Run(p, tape, fuel)
		if out != (api.Outcome{}) || !reflect.DeepEqual(s, api.Store{}) || code != want {
			t.Errorf("P7.1: %s: Run = %v, %v, %v, want %v", what, out, s, code, want)
		}
		seq := Moments(p, tape, fuel)
		if seq == nil {
			t.Fatalf("P7.2: %s: the iterator is nil", what)
		}
		for range 2 {
			for m := range seq {
				t.Errorf("P7.2: %s: a moment: %v", what, m)
			}
		}
	}
}

// P7.1: a fuel that is none.
func TestFuelsThatAreNone(t *testing.T) {
	for _, text := range []string{"", "var x;", asks, counts, everyKind} {
		p := mustText(t, text)
		for _, fuel := range []int{math.MinInt, math.MinInt32, -5000, -2, -1, 5001, 5002, 10000, math.MaxInt32, math.MaxInt} {
			wantNone(t, text, p, fuel, api.ErrArg)
		}
		for _, fuel := range []int{0, 1, 4999, 5000} {
			if _, _, code := Run(p, nil, fuel); code != api.OK {
				t.Errorf("P7.1: fuel %d is refused: %v", fuel, code)
			}
			if len(moments(p, nil, fuel)) == 0 {
				t.Errorf("P7.2: fuel %d: no moment", fuel)
			}
		}
	}
}

// P7.1: a Prog that check.Good refuses goes ahead of a fuel that is none.
func TestProgsThatArentGood(t *testing.T) {
	spoil := map[string]func(p *api.Prog){
		"nothing but nodes":  func(p *api.Prog) { *p = api.Prog{Nodes: p.Nodes} },
		"no nodes":           func(p *api.Prog) { p.Nodes = nil },
		"a node less":        func(p *api.Prog) { p.Nodes = p.Nodes[:len(p.Nodes)-1] },
		"too many nodes":     func(p *api.Prog) { p.Nodes = make([]api.Node, 1000) },
		"another scalar":     func(p *api.Prog) { p.Scalars[0] = "y" },
		"no scalar":          func(p *api.Prog) { p.Scalars = nil },
		"a scalar more":      func(p *api.Prog) { p.Scalars = append(p.Scalars, "y") },
		"an array below 0":   func(p *api.Prog) { p.Arrays[0].Len = -1 },
		"no array":           func(p *api.Prog) { p.Arrays = nil },
		"a symbol too great": func(p *api.Prog) { p.Symbols[2] = 7 },
		"no symbols":         func(p *api.Prog) { p.Symbols = nil },
		"another site":       func(p *api.Prog) { p.SiteOf[4] = 9 },
		"no sites":           func(p *api.Prog) { p.Sites = nil },
		"no kind":            func(p *api.Prog) { p.Nodes[4].Kind = 99 },
		"a depth":            func(p *api.Prog) { p.Nodes[2].Depth = -1 },
		"a statement's name": func(p *api.Prog) { p.Nodes[2].Name = "q" },
	}
	for what, change := range spoil {
		p := mustText(t, everyKind)
		change(&p)
		if check.Good(p) {
			t.Fatalf("%s: the Prog is still good", what)
		}
		for _, fuel := range []int{math.MinInt, -1, 0, 1, 9, api.MaxFuel, api.MaxFuel + 1, math.MaxInt} {
			wantNone(t, what, p, fuel, api.ErrPut)
		}
	}
	wantNone(t, "no program", api.Prog{Scalars: []string{"x"}}, 9, api.ErrPut)
}

// P7.1: the zero Prog is the program of no statement.
func TestZeroProg(t *testing.T) {
	if out, s, code := Run(api.Prog{}, []int64{5}, 0); out != halt(0, 0) || !sameStore(s, api.Store{}) || code != api.OK {
		t.Errorf("P7.1: Run of the zero Prog = %v, %v, %v", out, s, code)
	}
	if ms := moments(api.Prog{}, []int64{5}, 0); len(ms) != 1 || !sameMoment(ms[0], api.Moment{Place: -1}) {
		t.Errorf("P7.2: the moments of the zero Prog are %v", ms)
	}
}

// P7.1: each kind of statement as the only step: with just its fuel, with one less, and with more.
func TestFuelAtEachKind(t *testing.T) {
	declared := "var x; array a[2]; "
	zeros := storeOf([]int64{0}, []int64{0, 0})
	for _, c := range []struct {
		text string
		want api.Outcome
		last api.Store
	}{
		{"x := 5;", halt(1, 0), storeOf([]int64{5}, []int64{0, 0})},
		{"a[1] := 5;", halt(1, 0), storeOf([]int64{0}, []int64{0, 5})},
		{"input x;", halt(1, 1), storeOf([]int64{7}, []int64{0, 0})},
		{"assert x == 0;", halt(1, 0), zeros},
		{"skip;", halt(1, 0), zeros},
		{"if x == 1 { skip; }", halt(1, 0), zeros},
		{"if x == 0 { } else { skip; }", halt(1, 0), zeros},
		{"while x == 1 { skip; }", halt(1, 0), zeros},
		{"x := 1 / x;", faulted(0, 1, 0), zeros},
		{"x := a[2];", faulted(0, 1, 0), zeros},
		{"a[2] := 5;", faulted(0, 1, 0), zeros},
		{"a[1] := 5 % x;", faulted(1, 1, 0), zeros},
		{"assert x == 1;", faulted(0, 1, 0), zeros},
		{"assert 1 / x == 1;", faulted(1, 1, 0), zeros},
		{"if a[2] == 1 { skip; } else { skip; }", faulted(0, 1, 0), zeros},
		{"while 1 % x == 1 { skip; }", faulted(0, 1, 0), zeros},
	} {
		tape := []int64{7, 8}
		looks := []int{2, -1}
		if c.want.Kind == api.Faulted {
			looks = looks[:1]
		}
		wantRun(t, declared+c.text, tape, 0, outOfFuel(0, 0), zeros, 2)
		for _, fuel := range []int{1, 2, api.MaxFuel} {
			wantRun(t, declared+c.text, tape, fuel, c.want, c.last, looks...)
		}
		// The same holds behind a step that was made.
		later := c.want
		later.Steps++
		looks = slices.Insert(looks, 1, 3)
		wantRun(t, declared+"skip; "+c.text, tape, 1, outOfFuel(1, 0), zeros, 2, 3)
		wantRun(t, declared+"skip; "+c.text, tape, 2, later, c.last, looks...)
	}
}

// P7.1: what stands behind a statement is left to do when the fuel is looked at.
func TestFuelBehindEachKind(t *testing.T) {
	for _, text := range []string{"x := 5;", "a[1] := 5;", "input x;", "assert x == 0;", "skip;", "if x == 1 { skip; }", "if x == 0 { } else { }", "while x == 1 { skip; }"} {
		p := mustText(t, "var x; array a[2]; "+text+" skip;")
		last := len(p.Nodes) - 1
		for fuel, want := range []struct {
			kind   api.OutKind
			places []int
		}{{api.OutOfFuel, []int{2}}, {api.OutOfFuel, []int{2, last}}, {api.Halt, []int{2, last, -1}}, {api.Halt, []int{2, last, -1}}} {
			out, _, code := Run(p, []int64{7}, fuel)
			if out.Kind != want.kind || out.Steps != min(fuel, 2) || out.Site != -1 || code != api.OK {
				t.Errorf("P7.1: %q with %d = %v, %v", text, fuel, out, code)
			}
			if got := places(moments(p, []int64{7}, fuel)); !slices.Equal(got, want.places) {
				t.Errorf("P7.2: %q with %d looks at %v, want %v", text, fuel, got, want.places)
			}
		}
	}
}

// P7.1: the greatest fuel, just used up.
func TestGreatestFuel(t *testing.T) {
	// Each round has two steps; the condition is evaluated once more at the end.
	p := mustText(t, "var x; skip; while x < 2499 { x := x + 1; }")
	if out, s, code := Run(p, nil, 5000); out != halt(5000, 0) || s.Vars[0] != 2499 || code != api.OK {
		t.Errorf("P7.1: with 5000 = %v, %v, %v", out, s, code)
	}
	if out, s, code := Run(p, nil, 4999); out != outOfFuel(4999, 0) || s.Vars[0] != 2499 || code != api.OK {
		t.Errorf("P7.1: with 4999 = %v, %v, %v", out, s, code)
	}
	if ms := moments(p, nil, 5000); len(ms) != 5001 || ms[4999].Place != 2 || ms[5000].Place != -1 {
		t.Errorf("P7.2: %d moments", len(ms))
	}
	p = mustText(t, "var x; while x < 2500 { x := x + 1; } assert false;")
	if out, _, _ := Run(p, nil, 5000); out != outOfFuel(5000, 0) {
		t.Errorf("P7.1: a step too many = %v", out)
	}
}

// P7.1, P7.2: blocks: empty, absent, nested, and what comes behind them.
func TestBlocks(t *testing.T) {
	x := func(v int64) api.Store { return storeOf([]int64{v}) }
	for _, c := range []struct {
		text  string
		last  int64
		looks []int
	}{
		{"skip;", 0, []int{1, -1}},
		{"skip; skip; skip;", 0, []int{1, 2, 3, -1}},
		{"if true { }", 0, []int{1, -1}},
		{"if false { }", 0, []int{1, -1}},
		{"if false { } else { }", 0, []int{1, -1}},
		{"if true { x := 1; }", 1, []int{1, 4, -1}},
		{"if false { x := 1; }", 0, []int{1, -1}},
		{"if false { x := 1; } x := x + 2;", 2, []int{1, 6, -1}},
		{"if true { x := 1; } x := x + 2;", 3, []int{1, 4, 6, -1}},
		{"if true { x := 1; } else { x := 2; }", 1, []int{1, 4, -1}},
		{"if false { x := 1; } else { x := 2; }", 2, []int{1, 7, -1}},
		{"if true { } else { x := 2; } skip;", 0, []int{1, 7, -1}},
		{"if false { x := 1; } else { } skip;", 0, []int{1, 7, -1}},
		{"if false { } else { x := 2; x := 3; } skip;", 3, []int{1, 5, 7, 9, -1}},
		{"while false { x := 1; }", 0, []int{1, -1}},
		{"while false { } skip;", 0, []int{1, 4, -1}},
		{"while x < 1 { skip; x := x + 1; skip; } skip;", 1, []int{1, 6, 7, 11, 1, 12, -1}},
		// An else goes with the if whose first block it stands behind.
		{"if true { if false { x := 1; } } else { x := 2; }", 0, []int{1, 4, -1}},
		{"if true { if false { x := 1; } else { x := 2; } }", 2, []int{1, 4, 10, -1}},
		{"if false { if true { x := 1; } } else { x := 2; }", 2, []int{1, 10, -1}},
		{"if true { } if false { } else { x := 4; }", 4, []int{1, 4, 8, -1}},
		{"if true { if true { if true { } } } x := 9;", 9, []int{1, 4, 7, 10, -1}},
		{"if true { if true { x := 1; } x := x + 1; } x := x * 3;", 6, []int{1, 4, 7, 9, 13, -1}},
		// A block of a while leads back to it, however deep the last statement stands.
		{"while x < 2 { if x == 0 { x := 1; } else { x := 2; } }", 2, []int{1, 6, 11, 1, 6, 14, 1, -1}},
		{"while x < 1 { if false { } x := x + 1; if true { } }", 1, []int{1, 6, 9, 13, 1, -1}},
		{"while x < 1 { while x < 1 { x := x + 1; } }", 1, []int{1, 6, 11, 6, 1, -1}},
		{"while x < 4 { while x % 2 == 0 { x := x + 1; } x := x + 1; } skip;", 4, []int{1, 6, 13, 6, 17, 1, 6, 13, 6, 17, 1, 21, -1}},
	} {
		want := halt(len(c.looks)-1, 0)
		wantRun(t, "var x; "+c.text, nil, 99, want, x(c.last), c.looks...)
		wantRun(t, "var x; "+c.text, nil, want.Steps, want, x(c.last), c.looks...)
	}
}

// P7.1: a step that faults is counted, and leaves the store as it was ahead of it.
func TestFaults(t *testing.T) {
	declared := "var x; var y; array a[2]; "
	for _, c := range []struct {
		text string
		tape []int64
		want api.Outcome
		last api.Store
	}{
		{"x := 4; x := 1 / y; x := 5;", nil, faulted(0, 2, 0), storeOf([]int64{4, 0}, []int64{0, 0})},
		{"a[0] := 3; a[1] := a[0] / y;", nil, faulted(2, 2, 0), storeOf([]int64{0, 0}, []int64{3, 0})},
		{"a[0] := 3; a[a[0]] := 8;", nil, faulted(1, 2, 0), storeOf([]int64{0, 0}, []int64{3, 0})},
		{"a[2] := 1 / y;", nil, faulted(0, 1, 0), storeOf([]int64{0, 0}, []int64{0, 0})},
		{"input x; input y; assert x < y; skip;", []int64{6, 5, 4}, faulted(0, 3, 2), storeOf([]int64{6, 5}, []int64{0, 0})},
		{"x := 1; if 1 / y == 0 { x := 2; } else { x := 3; } x := 4;", nil, faulted(0, 2, 0), storeOf([]int64{1, 0}, []int64{0, 0})},
		{"x := 3; while 6 / x > 0 { x := x - 1; } skip;", nil, faulted(0, 8, 0), storeOf([]int64{0, 0}, []int64{0, 0})},
		{"while a[x] == 0 { a[x] := x + 1; x := x + 1; }", nil, faulted(0, 7, 0), storeOf([]int64{2, 0}, []int64{1, 2})},
		{"while true { x := x + 1; if x == 3 { assert false; } }", nil, faulted(0, 10, 0), storeOf([]int64{3, 0}, []int64{0, 0})},
		{"while true { input x; y := y + 10 / x; }", []int64{5, 2, 0, 1}, faulted(0, 9, 3), storeOf([]int64{0, 7}, []int64{0, 0})},
		{"assert true; assert x / 1 == 0; assert 2 < 1;", nil, faulted(3, 3, 0), storeOf([]int64{0, 0}, []int64{0, 0})},
	} {
		p := mustText(t, declared+c.text)
		for _, fuel := range []int{c.want.Steps, c.want.Steps + 1, api.MaxFuel} {
			out, s, code := Run(p, c.tape, fuel)
			if out != c.want || !sameStore(s, c.last) || code != api.OK {
				t.Errorf("P7.1: %q on %v with %d = %v, %v, %v, want %v, %v", c.text, c.tape, fuel, out, s, code, c.want, c.last)
			}
			wantWhole(t, c.text, moments(p, c.tape, fuel), c.want, c.last)
		}
		// With one less the step isn't made: nothing faults.
		short := outOfFuel(c.want.Steps-1, c.want.Reads)
		out, s, code := Run(p, c.tape, c.want.Steps-1)
		if out != short || !sameStore(s, c.last) || code != api.OK {
			t.Errorf("P7.1: %q on %v with one less = %v, %v, %v, want %v", c.text, c.tape, out, s, code, short)
		}
		wantWhole(t, c.text, moments(p, c.tape, c.want.Steps-1), short, c.last)
	}
}

// P7.1, P7.3: tapes that are empty, too short, just long enough and too long.
func TestTapes(t *testing.T) {
	text := "var x; var y; input x; skip; input y; input x;"
	for _, tape := range [][]int64{nil, {}, make([]int64, 0, 5)} {
		wantRun(t, text, tape, 9, exhausted(0, 0), storeOf([]int64{0, 0}), 2)
		wantRun(t, text, tape, 0, outOfFuel(0, 0), storeOf([]int64{0, 0}), 2)
	}
	wantRun(t, text, []int64{7}, 9, exhausted(2, 1), storeOf([]int64{7, 0}), 2, 3, 4)
	wantRun(t, text, []int64{7}, 3, exhausted(2, 1), storeOf([]int64{7, 0}), 2, 3, 4)
	// The fuel is looked at ahead of the tape.
	wantRun(t, text, []int64{7}, 2, outOfFuel(2, 1), storeOf([]int64{7, 0}), 2, 3, 4)
	wantRun(t, text, []int64{7, math.MinInt64}, 9, exhausted(3, 2), storeOf([]int64{7, math.MinInt64}), 2, 3, 4, 5)
	for _, behind := range [][]int64{nil, {1}, {math.MaxInt64, 2}, make([]int64, 9000)} {
		tape := append([]int64{7, math.MinInt64, math.MaxInt64}, behind...)
		wantRun(t, text, tape, 9, halt(4, 3), storeOf([]int64{math.MaxInt64, math.MinInt64}), 2, 3, 4, 5, -1)
		wantRun(t, text, tape, 3, outOfFuel(3, 2), storeOf([]int64{7, math.MinInt64}), 2, 3, 4, 5)
		wantRun(t, "var x; var y; skip;", tape, 9, halt(1, 0), storeOf([]int64{0, 0}), 2, -1)
	}
	// What is behind the length of a tape isn't on it.
	long := []int64{7, 8, 9}
	wantRun(t, text, long[:1], 9, exhausted(2, 1), storeOf([]int64{7, 0}), 2, 3, 4)
}

// P7.1: as many inputs as there may be, the fuel and the tape used up at the same time, or one of them ahead.
func TestInputsWithoutEnd(t *testing.T) {
	p := mustText(t, "var x; while true { input x; }")
	tape := make([]int64, 2501)
	for i := range tape {
		tape[i] = int64(i + 1)
	}
	for _, c := range []struct {
		length, fuel int
		want         api.Outcome
	}{
		{2500, 5000, outOfFuel(5000, 2500)}, {2501, 5000, outOfFuel(5000, 2500)}, {2499, 5000, exhausted(4999, 2499)}, {2499, 4999, outOfFuel(4999, 2499)},
		{2, 5, outOfFuel(5, 2)}, {2, 6, exhausted(5, 2)}, {3, 6, outOfFuel(6, 3)}, {0, 1, outOfFuel(1, 0)}, {0, 2, exhausted(1, 0)},
	} {
		out, s, code := Run(p, tape[:c.length], c.fuel)
		if out != c.want || s.Vars[0] != int64(c.want.Reads) || code != api.OK {
			t.Errorf("P7.1: %d numbers, fuel %d: %v, %v, %v, want %v", c.length, c.fuel, out, s, code, c.want)
		}
		wantWhole(t, "inputs", moments(p, tape[:c.length], c.fuel), c.want, s)
	}
}

// P7.2: each kind of statement, and what it leaves in the moments behind it.
func TestMomentsOfEachKind(t *testing.T) {
	p := mustText(t, everyKind)
	at := func(place, steps, reads int, x, first, second int64) api.Moment {
		return api.Moment{Place: place, Steps: steps, Reads: reads, Store: storeOf([]int64{x}, []int64{first, second})}
	}
	stands := map[api.NodeKind]int{}
	for i, n := range p.Nodes {
		if _, again := stands[n.Kind]; !again {
			stands[n.Kind] = i
		}
	}
	loop := stands[api.KWhile]
	want := []api.Moment{
		at(2, 0, 0, 0, 0, 0), at(4, 1, 0, 1, 0, 0), at(8, 2, 0, 1, 0, -1), at(9, 3, 1, -5, 0, -1), at(stands[api.KSkip], 4, 1, -5, 0, -1),
		at(stands[api.KIf], 5, 1, -5, 0, -1), at(stands[api.KLoad]-1, 6, 1, -5, 0, -1), at(loop, 7, 1, -1, 0, -1), at(loop+5, 8, 1, -1, 0, -1),
		at(loop, 9, 2, 6, 0, -1), at(-1, 10, 2, 6, 0, -1),
	}
	for fuel := range 13 {
		got := moments(p, []int64{-5, 6, 9}, fuel)
		if !slices.EqualFunc(got, want[:min(fuel+1, len(want))], sameMoment) {
			t.Errorf("P7.2: with %d the moments are %v", fuel, got)
		}
	}
	if len(stands) != int(api.KBinary)+1 {
		t.Errorf("only %d kinds of nodes stand in the program", len(stands))
	}
}

// P7.1, P7.2: the deepest blocks and the longest program that there may be.
func TestGreatPrograms(t *testing.T) {
	// A statement of the program has Depth 1, and each block puts one two deeper; 23 is the greatest that an if may have.
	levels := (api.MaxNest - 2) / 2
	deep := mustText(t, "var x; "+strings.Repeat("if true { ", levels)+"skip; "+strings.Repeat("} ", levels)+"x := 1;")
	if out, s, _ := Run(deep, nil, 99); out != halt(levels+2, 0) || s.Vars[0] != 1 {
		t.Errorf("P7.1: deep blocks = %v, %v", out, s)
	}
	loops := mustText(t, "var x; "+strings.Repeat("while x < 1 { ", levels)+"x := 1; "+strings.Repeat("} ", levels)+"x := 2;")
	if out, s, _ := Run(loops, nil, 99); out != halt(2*levels+2, 0) || s.Vars[0] != 2 {
		t.Errorf("P7.1: deep loops = %v, %v", out, s)
	}
	empty := mustText(t, strings.Repeat("while true { ", levels)+strings.Repeat("} ", levels))
	if out, _, _ := Run(empty, nil, api.MaxFuel); out != outOfFuel(api.MaxFuel, 0) {
		t.Errorf("P7.1: deep empty loops = %v", out)
	}
	long := mustText(t, strings.Repeat("skip; ", api.MaxNodes))
	if out, _, _ := Run(long, nil, api.MaxFuel); out != halt(api.MaxNodes, 0) {
		t.Errorf("P7.1: a long program = %v", out)
	}
	if got := places(moments(long, nil, 100)); len(got) != 101 || got[0] != 0 || got[100] != 100 {
		t.Errorf("P7.2: a long program looks at %v", got)
	}
}
