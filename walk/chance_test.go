package walk

import (
	"math"
	"math/rand"
	"slices"
	"strconv"
	"strings"
	"testing"

	"winnow/api"
	"winnow/cfg"
	"winnow/check"
	"winnow/eval"
	"winnow/interp"
)

// words is a run told by the tree: it goes by interp alone, and finds each look's node and the edge between two looks.
type words struct {
	out   api.Outcome
	store api.Store
	stops []stop
	path  []int
}

func toldByTheTree(p api.Prog, tape []int64, fuel int) words {
	graph, _ := cfg.Lower(p)
	var w words
	w.out, w.store, _ = interp.Run(p, tape, fuel)
	ahead := -1
	for m := range interp.Moments(p, tape, fuel) {
		node := graph.Exit
		if m.Place >= 0 {
			node = cfg.At(p, m.Place)
		}
		if len(w.stops) > 0 {
			w.path = append(w.path, edgeOf(graph, w.stops[len(w.stops)-1], node, ahead))
		}
		w.stops = append(w.stops, stop{node, m.Store})
		ahead = m.Place
	}
	return w
}

// edgeOf is the one edge by which a statement leads from a stop to a node: two that lead there are told apart by their Sense.
func edgeOf(graph api.Graph, from stop, to, place int) int {
	found := -1
	for i, e := range graph.Edges {
		if e.From != from.node || e.To != to {
			continue
		}
		if kind := graph.Prog.Nodes[place].Kind; kind == api.KIf || kind == api.KWhile {
			if holds, _, _ := eval.Bool(graph.Prog, from.store, place+1); holds != e.Sense {
				continue
			}
		}
		if found >= 0 {
			return -1
		}
		found = i
	}
	return found
}

// maker makes texts of programs by chance.
type maker struct{ *rand.Rand }

func (m maker) pick(texts ...string) string { return texts[m.Intn(len(texts))] }

// number is mostly one that is an index or leaves a loop, so that runs go far.
func (m maker) number(left int) string {
	if left > 0 {
		switch m.Intn(5) {
		case 0:
			return m.pick("a", "b") + "[" + m.number(left-1) + "]"
		case 1, 2:
			return "(" + m.number(left-1) + m.pick(" + ", " - ", " * ", " / ", " % ") + m.number(left-1) + ")"
		}
	}
	return m.pick("x", "y", "z", strconv.Itoa(m.Intn(4)), "-1", "9223372036854775807")
}

func (m maker) condition(left int) string {
	if left > 0 {
		switch m.Intn(6) {
		case 0:
			return "!(" + m.condition(left-1) + ")"
		case 1:
			return "(" + m.condition(left-1) + m.pick(" && ", " || ") + m.condition(left-1) + ")"
		}
	}
	if m.Intn(6) == 0 {
		return m.pick("true", "false")
	}
	return "(" + m.number(m.Intn(2)) + m.pick(" < ", " <= ", " > ", " >= ", " == ", " != ") + m.number(0) + ")"
}

func (m maker) block(left int) string {
	return "{ " + m.statements(m.Intn(4), left-1) + "}"
}

func (m maker) statements(number, left int) string {
	var text strings.Builder
	for range number {
		text.WriteString(m.statement(left) + " ")
	}
	return text.String()
}

func (m maker) statement(left int) string {
	if left > 0 {
		switch m.Intn(5) {
		case 0:
			return "if " + m.condition(1) + " " + m.block(left)
		case 1:
			return "if " + m.condition(1) + " " + m.block(left) + " else " + m.block(left)
		case 2:
			return "while " + m.condition(1) + " " + m.block(left)
		}
	}
	switch m.Intn(7) {
	case 0:
		return m.pick("a", "b") + "[" + m.number(0) + "] := " + m.number(1) + ";"
	case 1, 2:
		return "input " + m.pick("x", "y", "z") + ";"
	case 3:
		return "assert " + m.condition(2) + ";"
	case 4:
		return "skip;"
	}
	name := m.pick("x", "y", "z")
	return name + " := " + m.pick(name+" + 1", m.number(2)) + ";"
}

// program makes texts until check takes one: some have too many sites.
func (m maker) program() (string, api.Prog) {
	for {
		text := "var x; array a[3]; var y; var z; array b[4]; " + m.statements(1+m.Intn(5), 3)
		if p, err := check.Text(text); err == nil {
			return text, p
		}
	}
}

func (m maker) tape() []int64 {
	tape := make([]int64, m.Intn(9))
	for i := range tape {
		tape[i] = m.Int63n(6) - 1
		if m.Intn(5) == 0 {
			tape[i] = []int64{math.MinInt64, math.MaxInt64, 1 << 40}[m.Intn(3)]
		}
	}
	return tape
}

// heldByTheTree holds a run of the graph against that of the tree, and tells how it ended.
func heldByTheTree(t *testing.T, p api.Prog, tape []int64, fuel int) api.Outcome {
	t.Helper()
	w := toldByTheTree(p, tape, fuel)
	out, s, code := Run(p, tape, fuel)
	if out != w.out || !sameStore(s, w.store) || code != api.OK {
		t.Errorf("P9.4: on %v with %d: %v, %v, %v, want %v, %v", tape, fuel, out, s, code, w.out, w.store)
	}
	if path, code := Path(p, tape, fuel); !slices.Equal(path, w.path) || code != api.OK {
		t.Errorf("P9.4: on %v with %d: the path %v, %v, want %v", tape, fuel, path, code, w.path)
	}
	if stops := collect(Stops(p, tape, fuel)); !slices.EqualFunc(stops, w.stops, sameStop) {
		t.Errorf("P9.4: on %v with %d: the stops %v, want %v", tape, fuel, stops, w.stops)
	}
	wantWalk(t, p, tape, fuel, w.out)
	return out
}

// P9.4: programs and tapes by chance, with every fuel up to their end.
func TestProgramsByChance(t *testing.T) {
	m := maker{rand.New(rand.NewSource(9))}
	seen := map[api.OutKind]int{}
	far := 0
	for range 1200 {
		text, p := m.program()
		tape := m.tape()
		end := heldByTheTree(t, p, tape, 60)
		seen[end.Kind]++
		if end.Steps > 9 {
			far++
		}
		for fuel := range min(end.Steps+2, 14) {
			heldByTheTree(t, p, tape, fuel)
		}
		if t.Failed() {
			t.Fatalf("the program is %s", text)
		}
	}
	for _, kind := range []api.OutKind{api.Halt, api.Faulted, api.Exhausted, api.OutOfFuel} {
		if seen[kind] < 50 || far < 150 {
			t.Errorf("too few runs of the kind %d, or too few that go far: %v, %d", kind, seen, far)
		}
	}
}

// P9.4: the errors are those of interp.Run too, whatever Prog and fuel it is.
func TestErrorsSideBySide(t *testing.T) {
	m := maker{rand.New(rand.NewSource(94))}
	seen := map[api.Errno]int{}
	for range 400 {
		text, p := m.program()
		if m.Intn(2) == 0 {
			p.Symbols[m.Intn(len(p.Symbols))]++
		}
		fuel := []int{math.MinInt, -1, 0, 7, api.MaxFuel + 1, math.MaxInt}[m.Intn(6)]
		_, _, want := interp.Run(p, nil, fuel)
		_, _, ran := Run(p, nil, fuel)
		_, walked := Path(p, nil, fuel)
		if ran != want || walked != want || (want != api.OK) != (len(collect(Stops(p, nil, fuel))) == 0) {
			t.Fatalf("P9.4: %s with %d: %v, %v, want %v", text, fuel, ran, walked, want)
		}
		seen[want]++
	}
	if seen[api.OK] < 30 || seen[api.ErrArg] < 30 || seen[api.ErrPut] < 30 {
		t.Errorf("too few of some errors: %v", seen)
	}
}

func FuzzText(f *testing.F) {
	for _, text := range []string{"", asks, counts, everyKind, "var x; while true { if x < 0 { input x; } else { x := x - 1; } }"} {
		f.Add(text, int64(7), uint(40))
	}
	f.Fuzz(func(t *testing.T, text string, seed int64, fuel uint) {
		p, err := check.Text(text)
		if err != nil {
			return
		}
		m := maker{rand.New(rand.NewSource(seed))}
		heldByTheTree(t, p, m.tape(), int(fuel%201))
	})
}
