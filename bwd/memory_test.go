package bwd

import (
	"reflect"
	"slices"
	"sync"
	"testing"

	"winnow/api"
)

const mark = -987654321

// roomy is a list with marked room behind it.
func roomy[T any](list []T, marked T) []T {
	long := append(slices.Clone(list), marked, marked, marked)
	return long[:len(list)]
}

// whole is a list with the room behind it.
func whole[T any](list []T) []T { return slices.Clone(list[:cap(list)]) }

func roomyProg(p api.Prog) api.Prog {
	return api.Prog{
		Nodes: roomy(p.Nodes, api.Node{Depth: mark}), Scalars: roomy(p.Scalars, "mark"), Arrays: roomy(p.Arrays, api.Array{Len: mark}),
		Symbols: roomy(p.Symbols, mark), Sites: roomy(p.Sites, mark), SiteOf: roomy(p.SiteOf, mark),
	}
}

func wholeProg(p api.Prog) api.Prog {
	return api.Prog{
		Nodes: whole(p.Nodes), Scalars: whole(p.Scalars), Arrays: whole(p.Arrays),
		Symbols: whole(p.Symbols), Sites: whole(p.Sites), SiteOf: whole(p.SiteOf),
	}
}

func roomyConfig(c api.Config) api.Config {
	c.Thresholds = roomy(c.Thresholds, mark)
	return c
}

func wholeConfig(c api.Config) api.Config {
	c.Thresholds = whole(c.Thresholds)
	return c
}

func roomyEnv(e api.Env) api.Env {
	return api.Env{Dead: e.Dead, Vars: roomy(e.Vars, is(mark)), Arrays: roomy(e.Arrays, is(mark))}
}

func wholeEnv(e api.Env) api.Env {
	return api.Env{Dead: e.Dead, Vars: whole(e.Vars), Arrays: whole(e.Arrays)}
}

// roomyTable has room behind its list and behind each list in it; in the room stand Envs with lists, too.
func roomyTable(t api.Table) api.Table {
	u := roomy(t, vars(is(mark)))
	for i, e := range u {
		u[i] = roomyEnv(e)
	}
	return u
}

func wholeTable(t api.Table) api.Table {
	u := whole(t)
	for i, e := range u {
		u[i] = wholeEnv(e)
	}
	return u
}

// overwriteEnv writes over all of an Env's lists, their room too.
func overwriteEnv(e api.Env) {
	for _, nums := range [][]api.Num{e.Vars[:cap(e.Vars)], e.Arrays[:cap(e.Arrays)]} {
		for i := range nums {
			nums[i] = is(mark)
		}
	}
}

// overwriteTable writes over all of a table, its room too.
func overwriteTable(t api.Table) {
	t = t[:cap(t)]
	for i, e := range t {
		overwriteEnv(e)
		t[i] = vars(is(mark), is(mark))
	}
}

// growTable grows each list of a table.
func growTable(t api.Table) {
	for _, e := range t {
		_ = append(e.Vars, is(mark))
		_ = append(e.Arrays, is(mark))
	}
	_ = append(t, vars(is(mark)))
}

// call is what Run is handed, with marked room behind all lists, and a copy of all of it.
type call struct {
	p    api.Prog
	c    api.Config
	u    api.Table
	site int
	kept [3]any
}

func newCall(p api.Prog, c api.Config, u api.Table, site int) *call {
	k := &call{p: roomyProg(p), c: roomyConfig(c), u: roomyTable(u), site: site}
	k.kept = k.state()
	return k
}

func (k *call) state() [3]any { return [3]any{wholeProg(k.p), wholeConfig(k.c), wholeTable(k.u)} }

// stays holds that what was handed in is as it was.
func (k *call) stays(t *testing.T, what string) {
	t.Helper()
	if !reflect.DeepEqual(k.kept, k.state()) {
		t.Fatalf("P23.3: %s has changed what was handed in: %v, %+v, %v", what, k.p, k.c, k.u)
	}
}

// wantKeeps holds that Run leaves what it is handed, and tells the same behind a writing over of its first answer, which stays where what was handed in is written over.
func (k *call) wantKeeps(t *testing.T) {
	t.Helper()
	first, number, code := Run(k.p, k.c, k.u, k.site)
	k.stays(t, "Run")
	told := tellTable(first)
	growTable(first)
	if tellTable(first) != told {
		t.Fatalf("P23.3: who grows a list of an answer changes it")
	}
	overwriteTable(first)
	k.stays(t, "who writes over an answer")
	second, number2, code2 := Run(k.p, k.c, k.u, k.site)
	if tellTable(second) != told || number2 != number || code2 != code {
		t.Fatalf("P23.3: Run is another one later: %v, %d, %v", second, number2, code2)
	}
	overwriteTable(k.u)
	if tellTable(second) != told {
		t.Fatalf("P23.3: who writes over what was handed in changes an answer: %v", second)
	}
}

// P23.3: what is handed in stays, with the room behind all lists; answers are new; right arguments.
func TestWhatIsHandedInStays(t *testing.T) {
	t.Parallel()
	for _, text := range texts() {
		p := mustText(t, text)
		for i, c := range corners() {
			for j, u := range withins(t, p, c) {
				if (i+j)%4 == 0 {
					newCall(p, c, u, (i+j)/4%len(p.Sites)).wantKeeps(t)
				}
			}
		}
	}
}

// P23.3: likewise where the call is refused.
func TestWhatIsRefusedStays(t *testing.T) {
	f := newFaults(t)
	for i, p := range f.progs {
		for j, c := range f.config {
			for k, u := range f.tables {
				newCall(p, c, u, f.sites[(i+j+k)%len(f.sites)]).wantKeeps(t)
			}
		}
	}
}

// P23.3: passes by chance.
func TestWhatIsHandedInStaysByChance(t *testing.T) {
	t.Parallel()
	m := newMaker(236)
	for i := range 300 {
		p, c := mustText(t, m.program(1+i%4)), m.config()
		newCall(p, c, m.within(t, p, c), m.Intn(len(p.Sites))).wantKeeps(t)
	}
}

// sharing looks whether any two of the lists that it is told share memory.
type sharing struct {
	t    *testing.T
	envs map[*api.Env]int
	nums map[*api.Num]int
	kept []any // so that no memory is given out twice
}

func newSharing(t *testing.T) *sharing {
	return &sharing{t: t, envs: map[*api.Env]int{}, nums: map[*api.Num]int{}}
}

// addAll counts where a list's elements stand, with those in the room behind it.
func addAll[T any](t *testing.T, seen map[*T]int, list []T) {
	t.Helper()
	list = list[:cap(list)]
	for i := range list {
		if seen[&list[i]]++; seen[&list[i]] > 1 {
			t.Fatalf("P23.3: two lists of %T share memory", list[i])
		}
	}
}

func (s *sharing) addTable(u api.Table) {
	s.t.Helper()
	s.kept = append(s.kept, u)
	addAll(s.t, s.envs, u)
	for _, e := range u[:cap(u)] {
		addAll(s.t, s.nums, e.Vars)
		addAll(s.t, s.nums, e.Arrays)
	}
}

// P23.3: no two lists of one answer, no lists of two answers, and no list of an answer and of what was handed in share memory.
func TestNothingIsShared(t *testing.T) {
	t.Parallel()
	s := newSharing(t)
	for _, text := range texts() {
		p := mustText(t, text)
		for _, c := range corners() {
			for _, u := range []api.Table{tops(t, p, c), ahead(t, p, c, zeros(t, p))} {
				s.addTable(u)
				for site := range p.Sites {
					s.addTable(passed(t, p, c, u, site))
					s.addTable(passed(t, p, c, u, site))
				}
			}
		}
	}
	if len(s.nums) < 20000 {
		t.Errorf("only %d Nums", len(s.nums))
	}
}

// P23.3: a list that stands more than once in what is handed in is told in new memory each time.
func TestSharedListsHandedIn(t *testing.T) {
	p := mustText(t, "var x; array a[2]; skip; skip; assert false;")
	shared := list(in(0, 5))
	e := both(shared, shared)
	got, _, code := Run(p, plain(), api.Table{e, e, e, e}, 0)
	if code != api.OK || tellTable(got) != tellTable(except(filled(4, e), 3, lost())) {
		t.Fatalf("P23.1: Run within %v = %v, %v", e, got, code)
	}
	newSharing(t).addTable(got)
	got[1].Vars[0] = is(7)
	if shared[0] != in(0, 5) || got[0].Vars[0] != in(0, 5) || got[2].Vars[0] != in(0, 5) || got[1].Arrays[0] != in(0, 5) {
		t.Errorf("P23.3: who writes into an answer changes %v, %v", shared, got)
	}
}

// Calls at the same time have nothing to do with one another.
func TestCallsAtTheSameTime(t *testing.T) {
	p, c := mustText(t, loop), api.Config{Hist: 1, Unroll: 2, Cap: 4, Narrow: 2, Thresholds: []int64{4}}
	u := ahead(t, p, c, zeros(t, p))
	want, number, _ := Run(p, c, u, 2)
	var group sync.WaitGroup
	for range 8 {
		group.Go(func() {
			for range 10 {
				wantRun(t, p, c, u, 2, want, number)
			}
		})
	}
	group.Wait()
}
