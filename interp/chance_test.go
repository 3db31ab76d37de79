package interp

import (
	"math"
	"math/rand"
	"slices"
	"strconv"
	"strings"
	"testing"

	"winnow/api"
	"winnow/check"
	"winnow/eval"
)

// words plays point 4 of the document a second time: each statement is gone into and left again, and a run that has ended is told by false.
type words struct {
	p     api.Prog
	tape  []int64
	fuel  int
	out   api.Outcome
	store api.Store
	looks []api.Moment
}

func playedByTheWords(p api.Prog, tape []int64, fuel int) *words {
	zeros, _ := eval.Zero(p)
	w := &words{p: p, tape: tape, fuel: fuel, out: api.Outcome{Site: -1}, store: zeros}
	if w.all(w.held(-1)) {
		w.look(-1)
		w.out.Kind = api.Halt
	}
	return w
}

// held is where what a node holds stands; of -1 what the program holds.
func (w *words) held(place int) []int {
	depth := 0
	if place >= 0 {
		depth = w.p.Nodes[place].Depth
	}
	var places []int
	for i := place + 1; i < len(w.p.Nodes) && w.p.Nodes[i].Depth > depth; i++ {
		if n := w.p.Nodes[i]; n.Depth == depth+1 && n.Kind > api.KArray {
			places = append(places, i)
		}
	}
	return places
}

func (w *words) look(place int) {
	s := api.Store{Vars: slices.Clone(w.store.Vars)}
	for _, list := range w.store.Arrays {
		s.Arrays = append(s.Arrays, slices.Clone(list))
	}
	w.looks = append(w.looks, api.Moment{Place: place, Steps: w.out.Steps, Reads: w.out.Reads, Store: s})
}

// makes looks at a step, and tells whether it is made; it is counted then.
func (w *words) makes(place int) bool {
	w.look(place)
	if w.out.Steps >= w.fuel {
		w.out.Kind = api.OutOfFuel
		return false
	}
	if w.p.Nodes[place].Kind == api.KInput && len(w.tape) == 0 {
		w.out.Kind = api.Exhausted
		return false
	}
	w.out.Steps++
	return true
}

func (w *words) faults(site int) bool {
	if site >= 0 {
		w.out.Kind, w.out.Site = api.Faulted, site
	}
	return site >= 0
}

func (w *words) all(places []int) bool {
	for _, place := range places {
		if !w.statement(place) {
			return false
		}
	}
	return true
}

func (w *words) statement(place int) bool {
	switch w.p.Nodes[place].Kind {
	case api.KIf:
		return w.branch(place)
	case api.KWhile:
		return w.loop(place)
	}
	if !w.makes(place) {
		return false
	}
	var read int64
	if w.p.Nodes[place].Kind == api.KInput {
		read, w.tape = w.tape[0], w.tape[1:]
		w.out.Reads++
	}
	after, site, _ := eval.Do(w.p, w.store, place, read)
	if w.faults(site) {
		return false
	}
	w.store = after
	return true
}

func (w *words) branch(place int) bool {
	if !w.makes(place) {
		return false
	}
	held := w.held(place)
	holds, site, _ := eval.Bool(w.p, w.store, held[0])
	switch {
	case w.faults(site):
		return false
	case holds:
		return w.all(w.held(held[1]))
	case len(held) > 2:
		return w.all(w.held(held[2]))
	}
	return true
}

func (w *words) loop(place int) bool {
	held := w.held(place)
	for w.makes(place) {
		holds, site, _ := eval.Bool(w.p, w.store, held[0])
		if w.faults(site) {
			return false
		}
		if !holds {
			return true
		}
		if !w.all(w.held(held[1])) {
			return false
		}
	}
	return false
}

// maker makes texts of programs by chance.
type maker struct{ *rand.Rand }

func (m maker) pick(texts ...string) string { return texts[m.Intn(len(texts))] }

// number is mostly one that is an index or leaves a loop, so that runs go far.
func (m maker) number(left int) string {
	if left > 0 {
		switch m.Intn(5) {
		case 0:
			return m.pick("a", "b") + "[" + m.number(left-1) + "]"
		case 1, 2:
			return "(" + m.number(left-1) + m.pick(" + ", " - ", " * ", " / ", " % ") + m.number(left-1) + ")"
		}
	}
	return m.pick("x", "y", "z", strconv.Itoa(m.Intn(4)), "-1", "9223372036854775807")
}

func (m maker) condition(left int) string {
	if left > 0 {
		switch m.Intn(6) {
		case 0:
			return "!(" + m.condition(left-1) + ")"
		case 1:
			return "(" + m.condition(left-1) + m.pick(" && ", " || ") + m.condition(left-1) + ")"
		}
	}
	if m.Intn(6) == 0 {
		return m.pick("true", "false")
	}
	return "(" + m.number(m.Intn(2)) + m.pick(" < ", " <= ", " > ", " >= ", " == ", " != ") + m.number(0) + ")"
}

func (m maker) block(left int) string {
	return "{ " + m.statements(m.Intn(4), left-1) + "}"
}

func (m maker) statements(number, left int) string {
	var text strings.Builder
	for range number {
		text.WriteString(m.statement(left) + " ")
	}
	return text.String()
}

func (m maker) statement(left int) string {
	if left > 0 {
		switch m.Intn(5) {
		case 0:
			return "if " + m.condition(1) + " " + m.block(left)
		case 1:
			return "if " + m.condition(1) + " " + m.block(left) + " else " + m.block(left)
		case 2:
			return "while " + m.condition(1) + " " + m.block(left)
		}
	}
	switch m.Intn(7) {
	case 0:
		return m.pick("a", "b") + "[" + m.number(0) + "] := " + m.number(1) + ";"
	case 1, 2:
		return "input " + m.pick("x", "y", "z") + ";"
	case 3:
		return "assert " + m.condition(2) + ";"
	case 4:
		return "skip;"
	}
	name := m.pick("x", "y", "z")
	return name + " := " + m.pick(name+" + 1", m.number(2)) + ";"
}

// program makes texts until check takes one: some have too many sites.
func (m maker) program() (string, api.Prog) {
	for {
		text := "var x; array a[3]; var y; var z; array b[4]; " + m.statements(1+m.Intn(5), 3)
		if p, err := check.Text(text); err == nil {
			return text, p
		}
	}
}

func (m maker) tape() []int64 {
	tape := make([]int64, m.Intn(9))
	for i := range tape {
		tape[i] = m.Int63n(6) - 1
		if m.Intn(5) == 0 {
			tape[i] = []int64{math.MinInt64, math.MaxInt64, 1 << 40}[m.Intn(3)]
		}
	}
	return tape
}

// heldByTheWords holds a run against the words, and tells how it ended.
func heldByTheWords(t *testing.T, p api.Prog, tape []int64, fuel int) api.Outcome {
	t.Helper()
	w := playedByTheWords(p, tape, fuel)
	out, s, code := Run(p, tape, fuel)
	if out != w.out || !sameStore(s, w.store) || code != api.OK {
		t.Errorf("P7.1: on %v with %d: %v, %v, %v, want %v, %v", tape, fuel, out, s, code, w.out, w.store)
	}
	ms := moments(p, tape, fuel)
	if !slices.EqualFunc(ms, w.looks, sameMoment) {
		t.Errorf("P7.2: on %v with %d: %v, want %v", tape, fuel, ms, w.looks)
	}
	wantWhole(t, "by chance", ms, w.out, w.store)
	return out
}

// P7.1, P7.2: programs and tapes by chance, with every fuel up to their end.
func TestProgramsByChance(t *testing.T) {
	m := maker{rand.New(rand.NewSource(7))}
	seen := map[api.OutKind]int{}
	far := 0
	for range 1200 {
		text, p := m.program()
		tape := m.tape()
		end := heldByTheWords(t, p, tape, 60)
		seen[end.Kind]++
		if end.Steps > 9 {
			far++
		}
		for fuel := range min(end.Steps+2, 30) {
			heldByTheWords(t, p, tape, fuel)
		}
		if t.Failed() {
			t.Fatalf("the program is %s", text)
		}
	}
	for _, kind := range []api.OutKind{api.Halt, api.Faulted, api.Exhausted, api.OutOfFuel} {
		if seen[kind] < 100 || far < 150 {
			t.Errorf("too few runs of the kind %d, or too few that go far: %v, %d", kind, seen, far)
		}
	}
}

// P7.3: with more fuel a run goes the same way further; numbers beyond Reads play no part.
func TestMoreFuelAndLongerTapes(t *testing.T) {
	m := maker{rand.New(rand.NewSource(73))}
	for range 1500 {
		text, p := m.program()
		tape, fuel := m.tape(), m.Intn(40)
		out, s, _ := Run(p, tape, fuel)
		looks := moments(p, tape, fuel)
		same := func(why string, tape []int64, fuel int) {
			t.Helper()
			again, u, code := Run(p, tape, fuel)
			if again != out || !sameStore(s, u) || code != api.OK || !slices.EqualFunc(moments(p, tape, fuel), looks, sameMoment) {
				t.Fatalf("P7.3: %s: %s on %v with %d = %v, was %v", why, text, tape, fuel, again, out)
			}
		}
		more := fuel + 1 + m.Intn(30)
		if out.Kind != api.OutOfFuel {
			same("more fuel", tape, more)
		} else if further := moments(p, tape, more); len(further) < len(looks) || !slices.EqualFunc(further[:len(looks)], looks, sameMoment) {
			t.Fatalf("P7.3: %s goes another way with %d than with %d", text, more, fuel)
		}
		if out.Kind != api.Exhausted {
			same("a longer tape", append(slices.Clone(tape), m.tape()...), fuel)
			same("other numbers beyond Reads", append(slices.Clone(tape[:out.Reads]), m.tape()...), fuel)
		} else if out.Reads != len(tape) {
			t.Fatalf("P7.1: %s is exhausted though %d of %d were read", text, out.Reads, len(tape))
		}
	}
}

func FuzzText(f *testing.F) {
	for _, text := range []string{"", asks, counts, everyKind, "var x; while true { if x < 0 { input x; } else { x := x - 1; } }"} {
		f.Add(text, int64(7), uint(40))
	}
	f.Fuzz(func(t *testing.T, text string, seed int64, fuel uint) {
		p, err := check.Text(text)
		if err != nil {
			return
		}
		m := maker{rand.New(rand.NewSource(seed))}
		heldByTheWords(t, p, m.tape(), int(fuel%201))
	})
}
