package replay

import (
	"reflect"
	"slices"
	"sync"
	"testing"

	"winnow/api"
)

const mark = -987654321

// roomy is a list with marked room behind it.
func roomy[T any](list []T, marked T) []T {
	long := append(slices.Clone(list), marked, marked, marked)
	return long[:len(list)]
}

// withRoom is a list with the room behind it.
func withRoom[T any](list []T) []T { return slices.Clone(list[:cap(list)]) }

func roomyProg(p api.Prog) api.Prog {
	return api.Prog{
		Nodes: roomy(p.Nodes, api.Node{Depth: mark}), Scalars: roomy(p.Scalars, "mark"), Arrays: roomy(p.Arrays, api.Array{Len: mark}),
		Symbols: roomy(p.Symbols, mark), Sites: roomy(p.Sites, mark), SiteOf: roomy(p.SiteOf, mark),
	}
}

func wholeProg(p api.Prog) api.Prog {
	return api.Prog{
		Nodes: withRoom(p.Nodes), Scalars: withRoom(p.Scalars), Arrays: withRoom(p.Arrays),
		Symbols: withRoom(p.Symbols), Sites: withRoom(p.Sites), SiteOf: withRoom(p.SiteOf),
	}
}

func roomyConfig(c api.Config) api.Config {
	c.Thresholds = roomy(c.Thresholds, mark)
	return c
}

func wholeConfig(c api.Config) api.Config {
	c.Thresholds = withRoom(c.Thresholds)
	return c
}

// roomyTable has room behind its list and behind each list in it; in the room stand Envs with lists, too.
func roomyTable(t api.Table) api.Table {
	u := roomy(t, vars(is(mark)))
	for i, e := range u {
		u[i] = api.Env{Dead: e.Dead, Vars: roomy(e.Vars, is(mark)), Arrays: roomy(e.Arrays, is(mark))}
	}
	return u
}

func wholeTable(t api.Table) api.Table {
	u := withRoom(t)
	for i, e := range u {
		u[i] = api.Env{Dead: e.Dead, Vars: withRoom(e.Vars), Arrays: withRoom(e.Arrays)}
	}
	return u
}

// call is what Tape and Find are handed, with marked room behind all lists, and a copy of all of it.
type call struct {
	p         api.Prog
	c         api.Config
	u         api.Table
	try, site int
	kept      [3]any
}

func newCall(p api.Prog, c api.Config, u api.Table, try, site int) *call {
	k := &call{p: roomyProg(p), c: roomyConfig(c), u: roomyTable(u), try: try, site: site}
	k.kept = k.state()
	return k
}

func (k *call) state() [3]any { return [3]any{wholeProg(k.p), wholeConfig(k.c), wholeTable(k.u)} }

// stays holds that what was handed in is as it was.
func (k *call) stays(t *testing.T, what string) {
	t.Helper()
	if !reflect.DeepEqual(k.kept, k.state()) {
		t.Fatalf("P24.5: %s has changed what was handed in: %v, %+v, %s", what, k.p, k.c, tell(k.u))
	}
}

// overwrite writes over all numbers of all lists that were handed in, their room too.
func (k *call) overwrite() {
	for _, e := range k.u[:cap(k.u)] {
		for _, nums := range [][]api.Num{e.Vars[:cap(e.Vars)], e.Arrays[:cap(e.Arrays)]} {
			for i := range nums {
				nums[i] = is(mark)
			}
		}
	}
	thresholds := k.c.Thresholds[:cap(k.c.Thresholds)]
	for i := range thresholds {
		thresholds[i] = mark
	}
}

// answer is all that a call answers.
type answer struct {
	tape  []int64
	steps int
	ok    bool
	code  api.Errno
}

func (a answer) same(b answer) bool {
	return slices.Equal(a.tape, b.tape) && a.steps == b.steps && a.ok == b.ok && a.code == b.code
}

// spoil grows an answer's list, and writes over all of it, its room too.
func (a answer) spoil() {
	_ = append(a.tape, mark)
	tape := a.tape[:cap(a.tape)]
	for i := range tape {
		tape[i] = mark
	}
}

// asks are the two calls.
func (k *call) asks() map[string]func() answer {
	return map[string]func() answer{
		"Tape": func() answer {
			tape, code := Tape(k.p, k.c, k.u, k.try)
			return answer{tape: tape, code: code}
		},
		"Find": func() answer {
			tape, steps, ok, code := Find(k.p, k.c, k.u, k.site)
			return answer{tape, steps, ok, code}
		},
	}
}

// wantKeeps holds that both calls leave what they are handed, and tell the same behind a writing over of the first answer; the second one stays where what was handed in is written over. It tells how many numbers were answered.
func (k *call) wantKeeps(t *testing.T) int {
	t.Helper()
	var kept, copies []answer
	numbers := 0
	for name, ask := range k.asks() {
		first := ask()
		k.stays(t, name)
		told := first
		told.tape = slices.Clone(first.tape)
		first.spoil()
		k.stays(t, "who writes over an answer of "+name)
		second := ask()
		if !second.same(told) {
			t.Fatalf("P24.5: %s is another one later: %v, want %v", name, second, told)
		}
		third := ask()
		third.spoil()
		kept, copies = append(kept, second), append(copies, told)
		numbers += len(told.tape)
	}
	k.overwrite()
	for i, a := range kept {
		if !a.same(copies[i]) {
			t.Fatalf("P24.5: who writes over what was handed in, or over another answer, changes %v to %v", copies[i], a)
		}
	}
	return numbers
}

// P24.5: what is handed in stays, with the room behind all lists; answers are new; right arguments.
func TestWhatIsHandedInStays(t *testing.T) {
	t.Parallel()
	numbers := 0
	for _, text := range texts() {
		p := mustText(t, text)
		for i, c := range corners() {
			for j, u := range tables(t, p, c) {
				if (i+j)%5 == 0 {
					numbers += newCall(p, c, u, j%api.MaxTries, j%max(len(p.Sites), 1)).wantKeeps(t)
				}
			}
		}
	}
	if numbers < 1000 {
		t.Errorf("only %d numbers", numbers)
	}
}

// P24.5: likewise where the call is refused.
func TestWhatIsRefusedStays(t *testing.T) {
	f := newFaults(t)
	for i, p := range f.progs {
		for j, c := range f.config {
			for k, u := range f.tables {
				place := (i + j + k) % len(f.sites)
				newCall(p, c, u, f.tries[place], f.sites[place]).wantKeeps(t)
			}
		}
	}
}

// P24.5: calls by chance.
func TestWhatIsHandedInStaysByChance(t *testing.T) {
	t.Parallel()
	m := newMaker(245)
	for i := range 200 {
		p, c := mustText(t, m.program(1+i%4)), m.config()
		newCall(p, c, m.by(t, p, c), m.Intn(4), m.Intn(len(p.Sites)+1)).wantKeeps(t)
	}
}

// P24.5: no lists of two answers share memory, not even in the room behind them.
func TestNothingIsShared(t *testing.T) {
	t.Parallel()
	seen := map[*int64]int{}
	var kept [][]int64 // so that no memory is given out twice
	add := func(tape []int64) {
		kept = append(kept, tape)
		tape = tape[:cap(tape)]
		for i := range tape {
			if seen[&tape[i]]++; seen[&tape[i]] > 1 {
				t.Fatal("P24.5: two answers share memory")
			}
		}
	}
	for _, text := range texts() {
		p := mustText(t, text)
		for _, c := range corners() {
			c.Thresholds = append(make([]int64, 0, 9), c.Thresholds...)
			add(c.Thresholds)
			for _, u := range []api.Table{tops(t, p, c), distinct(t, p, c)} {
				for range 2 {
					for try := range c.Tries {
						tape, _ := Tape(p, c, u, try)
						add(tape)
					}
					for site := range p.Sites {
						tape, _, _, _ := Find(p, c, u, site)
						add(tape)
					}
				}
			}
		}
	}
	if len(seen) < 10000 {
		t.Errorf("only %d numbers in %d lists", len(seen), len(kept))
	}
}

// Calls at the same time have nothing to do with one another.
func TestCallsAtTheSameTime(t *testing.T) {
	p, c := mustText(t, loop), api.Config{Hist: 1, Unroll: 2, Cap: 4, Fuel: 40, Tries: 4}
	u := distinct(t, p, c)
	var tapes [][]int64
	for try := range c.Tries {
		tape, _ := Tape(p, c, u, try)
		tapes = append(tapes, tape)
	}
	var group sync.WaitGroup
	for range 8 {
		group.Go(func() {
			for i := range 40 {
				wantTape(t, p, c, u, i%c.Tries, tapes[i%c.Tries]...)
			}
		})
	}
	group.Wait()
}
