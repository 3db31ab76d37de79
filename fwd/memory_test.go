package fwd

import (
	"reflect"
	"slices"
	"sync"
	"testing"

	"winnow/api"
)

const mark = -987654321

// roomy is a list with marked room behind it.
func roomy[T any](list []T, marked T) []T {
	long := append(slices.Clone(list), marked, marked, marked)
	return long[:len(list)]
}

// whole is a list with the room behind it.
func whole[T any](list []T) []T { return slices.Clone(list[:cap(list)]) }

func roomyProg(p api.Prog) api.Prog {
	return api.Prog{
		Nodes: roomy(p.Nodes, api.Node{Depth: mark}), Scalars: roomy(p.Scalars, "mark"), Arrays: roomy(p.Arrays, api.Array{Len: mark}),
		Symbols: roomy(p.Symbols, mark), Sites: roomy(p.Sites, mark), SiteOf: roomy(p.SiteOf, mark),
	}
}

func wholeProg(p api.Prog) api.Prog {
	return api.Prog{
		Nodes: whole(p.Nodes), Scalars: whole(p.Scalars), Arrays: whole(p.Arrays),
		Symbols: whole(p.Symbols), Sites: whole(p.Sites), SiteOf: whole(p.SiteOf),
	}
}

func roomyConfig(c api.Config) api.Config {
	c.Thresholds = roomy(c.Thresholds, mark)
	return c
}

func wholeConfig(c api.Config) api.Config {
	c.Thresholds = whole(c.Thresholds)
	return c
}

func roomyEnv(e api.Env) api.Env {
	return api.Env{Dead: e.Dead, Vars: roomy(e.Vars, is(mark)), Arrays: roomy(e.Arrays, is(mark))}
}

func wholeEnv(e api.Env) api.Env {
	return api.Env{Dead: e.Dead, Vars: whole(e.Vars), Arrays: whole(e.Arrays)}
}

// roomyTable has room behind its list and behind each list in it; in the room stand Envs with lists, too.
func roomyTable(t api.Table) api.Table {
	u := roomy(t, vars(is(mark)))
	for i, e := range u {
		u[i] = roomyEnv(e)
	}
	return u
}

func wholeTable(t api.Table) api.Table {
	u := whole(t)
	for i, e := range u {
		u[i] = wholeEnv(e)
	}
	return u
}

// overwriteEnv writes over all of an Env's lists, their room too.
func overwriteEnv(e api.Env) {
	for _, nums := range [][]api.Num{e.Vars[:cap(e.Vars)], e.Arrays[:cap(e.Arrays)]} {
		for i := range nums {
			nums[i] = is(mark)
		}
	}
}

// overwriteTable writes over all of a table, its room too.
func overwriteTable(t api.Table) {
	t = t[:cap(t)]
	for i, e := range t {
		overwriteEnv(e)
		t[i] = vars(is(mark), is(mark))
	}
}

// growTable grows each list of a table.
func growTable(t api.Table) {
	for _, e := range t {
		_ = append(e.Vars, is(mark))
		_ = append(e.Arrays, is(mark))
	}
	_ = append(t, vars(is(mark)))
}

// call is what Run and Alarms are handed, with marked room behind all lists, and a copy of all of it.
type call struct {
	p     api.Prog
	c     api.Config
	start api.Env
	u     api.Table
	kept  [4]any
}

func newCall(p api.Prog, c api.Config, start api.Env, u api.Table) *call {
	k := &call{p: roomyProg(p), c: roomyConfig(c), start: roomyEnv(start), u: roomyTable(u)}
	k.kept = k.state()
	return k
}

func (k *call) state() [4]any {
	return [4]any{wholeProg(k.p), wholeConfig(k.c), wholeEnv(k.start), wholeTable(k.u)}
}

// stays holds that what was handed in is as it was.
func (k *call) stays(t *testing.T, what string) {
	t.Helper()
	if !reflect.DeepEqual(k.kept, k.state()) {
		t.Fatalf("P22.4: %s has changed what was handed in: %v, %+v, %v, %v", what, k.p, k.c, k.start, k.u)
	}
}

// wantRunKeeps holds that Run leaves what it is handed, and tells the same behind a writing over of its first answer, which stays where what was handed in is written over.
func (k *call) wantRunKeeps(t *testing.T) {
	t.Helper()
	first, number, code := Run(k.p, k.c, k.start, k.u)
	k.stays(t, "Run")
	told := tellTable(first)
	growTable(first)
	if tellTable(first) != told {
		t.Fatalf("P22.4: who grows a list of an answer of Run changes it")
	}
	overwriteTable(first)
	k.stays(t, "who writes over an answer of Run")
	second, number2, code2 := Run(k.p, k.c, k.start, k.u)
	if tellTable(second) != told || number2 != number || code2 != code {
		t.Fatalf("P22.4: Run is another one later: %v, %d, %v", second, number2, code2)
	}
	overwriteEnv(k.start)
	overwriteTable(k.u)
	if tellTable(second) != told {
		t.Fatalf("P22.4: who writes over what was handed in changes an answer of Run: %v", second)
	}
}

// wantAlarmsKeeps holds likewise of Alarms.
func (k *call) wantAlarmsKeeps(t *testing.T) {
	t.Helper()
	first, code := Alarms(k.p, k.c, k.u)
	k.stays(t, "Alarms")
	told := slices.Clone(first)
	_ = append(first, mark)
	for i := range first[:cap(first)] {
		first[:cap(first)][i] = mark
	}
	k.stays(t, "who writes over an answer of Alarms")
	second, code2 := Alarms(k.p, k.c, k.u)
	if !slices.Equal(second, told) || code2 != code {
		t.Fatalf("P22.4: Alarms is another one later: %v, %v, then %v, %v", told, code, second, code2)
	}
	overwriteTable(k.u)
	for _, list := range [][]int{k.p.Sites[:cap(k.p.Sites)], k.p.SiteOf[:cap(k.p.SiteOf)], k.p.Symbols[:cap(k.p.Symbols)]} {
		for i := range list {
			list[i] = mark
		}
	}
	if !slices.Equal(second, told) {
		t.Fatalf("P22.4: who writes over what was handed in changes an answer of Alarms: %v", second)
	}
}

// P22.4: what is handed in stays, with the room behind all lists; answers are new; right arguments.
func TestWhatIsHandedInStays(t *testing.T) {
	t.Parallel()
	for _, text := range texts() {
		p := mustText(t, text)
		for i, c := range corners() {
			for j, u := range limits(t, p, c) {
				if (i+j)%3 > 0 {
					continue
				}
				start := starts(t, p)[(i+j)/3%5]
				newCall(p, c, start, u).wantRunKeeps(t)
				newCall(p, c, start, u).wantAlarmsKeeps(t)
			}
		}
	}
}

// P22.4: likewise where the call is refused.
func TestWhatIsRefusedStays(t *testing.T) {
	f := newFaults(t)
	for i, p := range f.progs {
		for j, start := range f.starts {
			for k, c := range f.config {
				if u := f.limits[(i+j+k)%len(f.limits)]; i+j+k > 0 {
					newCall(p, c, start, u).wantRunKeeps(t)
					newCall(p, c, start, u).wantAlarmsKeeps(t)
				}
			}
		}
	}
}

// P22.4: passes by chance.
func TestWhatIsHandedInStaysByChance(t *testing.T) {
	t.Parallel()
	m := newMaker(226)
	for i := range 200 {
		p, c := mustText(t, m.program(1+i%4)), m.config()
		u := m.limit(t, p, len(mustSplit(t, p, c).Verts))
		newCall(p, c, m.start(t, p), u).wantRunKeeps(t)
		newCall(p, c, m.start(t, p), u).wantAlarmsKeeps(t)
		newCall(p, c, m.start(t, p), nil).wantRunKeeps(t)
	}
}

// sharing looks whether any two of the lists that it is told share memory.
type sharing struct {
	t    *testing.T
	envs map[*api.Env]int
	nums map[*api.Num]int
	ints map[*int]int
	kept []any // so that no memory is given out twice
}

func newSharing(t *testing.T) *sharing {
	return &sharing{t: t, envs: map[*api.Env]int{}, nums: map[*api.Num]int{}, ints: map[*int]int{}}
}

// addAll counts where a list's elements stand, with those in the room behind it.
func addAll[T any](t *testing.T, seen map[*T]int, list []T) {
	t.Helper()
	list = list[:cap(list)]
	for i := range list {
		if seen[&list[i]]++; seen[&list[i]] > 1 {
			t.Fatalf("P22.4: two lists of %T share memory", list[i])
		}
	}
}

func (s *sharing) addEnv(e api.Env) {
	s.t.Helper()
	s.kept = append(s.kept, e)
	addAll(s.t, s.nums, e.Vars)
	addAll(s.t, s.nums, e.Arrays)
}

func (s *sharing) addTable(u api.Table) {
	s.t.Helper()
	s.kept = append(s.kept, u)
	addAll(s.t, s.envs, u)
	for _, e := range u[:cap(u)] {
		s.addEnv(e)
	}
}

func (s *sharing) addInts(list []int) {
	s.t.Helper()
	s.kept = append(s.kept, list)
	addAll(s.t, s.ints, list)
}

// P22.4: no two lists of one answer, no lists of two answers, and no list of an answer and of what was handed in share memory.
func TestNothingIsShared(t *testing.T) {
	t.Parallel()
	s := newSharing(t)
	for _, text := range texts() {
		p := mustText(t, text)
		s.addInts(p.Sites)
		s.addInts(p.SiteOf)
		s.addInts(p.Symbols)
		for i, c := range corners() {
			limit := filled(len(mustSplit(t, p, c).Verts), top(t, p))
			start := copied(starts(t, p)[i%5])
			s.addTable(limit)
			s.addEnv(start)
			for range 2 {
				for _, u := range []api.Table{limit, nil} {
					got, _, code := Run(p, c, start, u)
					if code != api.OK {
						t.Fatalf("P22.1: Run with %+v = %v", c, code)
					}
					s.addTable(got)
				}
				told, _ := Alarms(p, c, limit)
				s.addInts(told)
			}
		}
	}
	if len(s.nums) < 10000 || len(s.ints) < 500 {
		t.Errorf("only %d Nums and %d sites", len(s.nums), len(s.ints))
	}
}

// P22.4: a list that stands more than once in what is handed in, as the start's and as the limit's, is told in new memory each time.
func TestSharedListsHandedIn(t *testing.T) {
	p := mustText(t, "var x; array a[2]; skip; skip;")
	shared := list(in(0, 5))
	e := both(shared, shared)
	got, _, code := Run(p, plain(), e, api.Table{e, e, e})
	if code != api.OK || tellTable(got) != tellTable(filled(3, e)) {
		t.Fatalf("P22.1: Run from %v within it = %v, %v", e, got, code)
	}
	s := newSharing(t)
	s.addTable(got)
	got[1].Vars[0] = is(7)
	if shared[0] != in(0, 5) || got[0].Vars[0] != in(0, 5) || got[2].Vars[0] != in(0, 5) || got[1].Arrays[0] != in(0, 5) {
		t.Errorf("P22.4: who writes into an answer of Run changes %v, %v", shared, got)
	}
}

// Calls at the same time have nothing to do with one another.
func TestCallsAtTheSameTime(t *testing.T) {
	p, c := mustText(t, loop), api.Config{Hist: 1, Unroll: 2, Cap: 4, Narrow: 2, Thresholds: []int64{4}}
	z := zeros(t, p)
	want, number, _ := Run(p, c, z, nil)
	told, _ := Alarms(p, c, want)
	var group sync.WaitGroup
	for range 8 {
		group.Go(func() {
			for range 10 {
				wantRun(t, p, c, z, nil, want, number)
				wantAlarms(t, p, c, want, told...)
			}
		})
	}
	group.Wait()
}
