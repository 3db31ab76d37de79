package table

import (
	"reflect"
	"slices"
	"sync"
	"testing"

	"winnow/api"
	"winnow/env"
)

const mark = -987654321

// roomy is a list with marked room behind it.
func roomy[T any](list []T, marked T) []T {
	long := append(slices.Clone(list), marked, marked, marked)
	return long[:len(list)]
}

// whole is a list with the room behind it.
func whole[T any](list []T) []T { return slices.Clone(list[:cap(list)]) }

func roomyProg(p api.Prog) api.Prog {
	return api.Prog{
		Nodes: roomy(p.Nodes, api.Node{Depth: mark}), Scalars: roomy(p.Scalars, "mark"), Arrays: roomy(p.Arrays, api.Array{Len: mark}),
		Symbols: roomy(p.Symbols, mark), Sites: roomy(p.Sites, mark), SiteOf: roomy(p.SiteOf, mark),
	}
}

func wholeProg(p api.Prog) api.Prog {
	return api.Prog{
		Nodes: whole(p.Nodes), Scalars: whole(p.Scalars), Arrays: whole(p.Arrays),
		Symbols: whole(p.Symbols), Sites: whole(p.Sites), SiteOf: whole(p.SiteOf),
	}
}

func roomyConfig(c api.Config) api.Config {
	c.Thresholds = roomy(c.Thresholds, mark)
	return c
}

func wholeConfig(c api.Config) api.Config {
	c.Thresholds = whole(c.Thresholds)
	return c
}

func roomyEnv(e api.Env) api.Env {
	return api.Env{Dead: e.Dead, Vars: roomy(e.Vars, is(mark)), Arrays: roomy(e.Arrays, is(mark))}
}

// roomyTable has room behind its list and behind each list in it; in the room stand Envs with lists, too.
func roomyTable(t api.Table) api.Table {
	u := roomy(t, vars(is(mark)))
	for i, e := range u {
		u[i] = roomyEnv(e)
	}
	return u
}

func wholeTable(t api.Table) api.Table {
	u := whole(t)
	for i, e := range u {
		u[i] = api.Env{Dead: e.Dead, Vars: whole(e.Vars), Arrays: whole(e.Arrays)}
	}
	return u
}

// overwriteTable writes over all of a table, its room too.
func overwriteTable(t api.Table) {
	t = t[:cap(t)]
	for i, e := range t {
		for _, nums := range [][]api.Num{e.Vars[:cap(e.Vars)], e.Arrays[:cap(e.Arrays)]} {
			for j := range nums {
				nums[j] = is(mark)
			}
		}
		t[i] = vars(is(mark), is(mark))
	}
}

// growTable grows each list of a table.
func growTable(t api.Table) {
	for _, e := range t {
		_ = append(e.Vars, is(mark))
		_ = append(e.Arrays, is(mark))
	}
	_ = append(t, vars(is(mark)))
}

// places are where all Envs and Nums of tables stand, with those in the room behind lists.
func places(t api.Table) (envs []*api.Env, nums []*api.Num) {
	t = t[:cap(t)]
	for i := range t {
		envs = append(envs, &t[i])
		for _, list := range [][]api.Num{t[i].Vars[:cap(t[i].Vars)], t[i].Arrays[:cap(t[i].Arrays)]} {
			for j := range list {
				nums = append(nums, &list[j])
			}
		}
	}
	return envs, nums
}

// manyProgs are good and bad ones.
func manyProgs(t *testing.T) []api.Prog {
	spoilt := mustText(t, everything)
	spoilt.SiteOf[0] = 3
	return []api.Prog{{}, mustText(t, "skip;"), mustText(t, short), mustText(t, loop), mustText(t, everything), spoilt, {Scalars: []string{"x"}}}
}

// manyConfigs are right and wrong ones.
func manyConfigs() []api.Config {
	list := append(corners(), api.Config{Hist: 2, Unroll: 1, Cap: 2, Thresholds: []int64{-3, 4}, Fuel: 40})
	for _, w := range wrongs() {
		list = append(list, w.c)
	}
	return list
}

// manyTables are some that fit and some that don't.
func manyTables(p api.Prog, c api.Config) []api.Table {
	d, _ := Dead(p, c)
	top, _ := env.Top(p)
	return []api.Table{nil, d, filled(len(d), top), filled(len(d), both(list(raw(5, 3, 1, 0), raw(1, 9, 4, 9)), list(raw(0, 0, 0, 7)))), filled(3, vars(is(1)))}
}

// P21.5: Progs, configurations, tables and tapes that are handed in stay, with the room behind their lists, whatever the answer; and a later answer is the same.
func TestWhatIsHandedInStays(t *testing.T) {
	for _, prog := range manyProgs(t) {
		for _, config := range manyConfigs() {
			p, c := roomyProg(prog), roomyConfig(config)
			keptProg, keptConfig := wholeProg(p), wholeConfig(c)
			first, firstCode := Dead(p, c)
			told := tellTable(first)
			overwriteTable(first)
			if again, code := Dead(p, c); code != firstCode || tellTable(again) != told {
				t.Fatalf("P21.5: Dead is another one later: %v, %v", again, code)
			}
			for _, u := range manyTables(p, c) {
				wantTableStays(t, p, c, roomyTable(u))
			}
			if !reflect.DeepEqual(keptProg, wholeProg(p)) || !reflect.DeepEqual(keptConfig, wholeConfig(c)) {
				t.Fatalf("P21.5: what was handed in has changed: %v, %+v", p, c)
			}
		}
	}
}

// wantTableStays holds that Fits and Covers leave a table and a tape, and tell the same twice.
func wantTableStays(t *testing.T, p api.Prog, c api.Config, u api.Table) {
	t.Helper()
	kept := wholeTable(u)
	tape := roomy([]int64{2, -1, 3}, mark)
	keptTape := whole(tape)
	fits := Fits(p, c, u)
	ok, number, code := Covers(p, c, u, tape)
	if later := Fits(p, c, u); later != fits {
		t.Fatalf("P21.5: Fits is another one later: %v", later)
	}
	if ok1, number1, code1 := Covers(p, c, u, tape); ok1 != ok || number1 != number || code1 != code {
		t.Fatalf("P21.5: Covers is another one later: %v, %d, %v, then %v, %d, %v", ok, number, code, ok1, number1, code1)
	}
	if !reflect.DeepEqual(kept, wholeTable(u)) || !slices.Equal(keptTape, whole(tape)) {
		t.Fatalf("P21.5: the table or the tape has changed: %v, %v", u, tape)
	}
}

// P21.5: lists that are handed in to Leq, Same and Meet stay; answers of Meet are new, and the same later.
func TestListsStay(t *testing.T) {
	m := newMaker(216)
	for range 3000 {
		a, b := m.tables()
		a, b = roomyTable(a), roomyTable(b)
		keptA, keptB := wholeTable(a), wholeTable(b)
		stays := func(what string) {
			t.Helper()
			if !reflect.DeepEqual(keptA, wholeTable(a)) || !reflect.DeepEqual(keptB, wholeTable(b)) {
				t.Fatalf("P21.5: %s has changed what was handed in: %v, %v", what, a, b)
			}
		}
		below, same := Leq(a, b), Same(a, b)
		stays("Leq or Same")
		first, code := Meet(a, b)
		stays("Meet")
		told := tellTable(first)
		growTable(first)
		if tellTable(first) != told {
			t.Fatalf("P21.5: who grows a list of an answer changes it")
		}
		stays("who grows an answer of Meet")
		overwriteTable(first)
		stays("who writes over an answer of Meet")
		second, laterCode := Meet(a, b)
		if laterCode != code || tellTable(second) != told || Leq(a, b) != below || Same(a, b) != same {
			t.Fatalf("P21.5: Meet(%v, %v) is another one later: %v, %v", a, b, second, laterCode)
		}
		overwriteTable(a)
		overwriteTable(b)
		if tellTable(second) != told {
			t.Fatalf("P21.5: who writes over what was handed in changes an answer of Meet: %v", second)
		}
	}
}

// sharing looks whether any two of the tables that it is told share memory.
type sharing struct {
	t    *testing.T
	envs map[*api.Env]int
	nums map[*api.Num]int
	kept []api.Table // so that no memory is given out twice
}

func newSharing(t *testing.T) *sharing {
	return &sharing{t: t, envs: map[*api.Env]int{}, nums: map[*api.Num]int{}}
}

func (s *sharing) add(u api.Table) {
	s.t.Helper()
	s.kept = append(s.kept, u)
	envs, nums := places(u)
	for _, at := range envs {
		if s.envs[at]++; s.envs[at] > 1 {
			s.t.Fatalf("P21.5: two lists of Envs share memory")
		}
	}
	for _, at := range nums {
		if s.nums[at]++; s.nums[at] > 1 {
			s.t.Fatalf("P21.5: two lists of Nums share memory")
		}
	}
}

// P21.5: no two lists of one answer, no lists of two answers, and no list of an answer and of what was handed in share memory.
func TestNothingIsShared(t *testing.T) {
	m := newMaker(217)
	s := newSharing(t)
	for range 500 {
		a, b := m.tables()
		a, b = roomyTable(a), roomyTable(b)
		// The Envs in the room behind the two share nothing in turn.
		s.add(a[:len(a):len(a)])
		s.add(b[:len(b):len(b)])
		for range 2 {
			met, _ := Meet(a, b)
			s.add(met)
			self, _ := Meet(a, a)
			s.add(self)
		}
	}
	for _, text := range []string{"", "skip;", short, loop, everything} {
		p := mustText(t, text)
		top, _ := env.Top(p)
		for _, c := range corners() {
			d := mustDead(t, p, c)
			s.add(d)
			s.add(mustDead(t, p, c))
			tops := filled(len(d), top)
			s.add(tops)
			met, _ := Meet(tops, tops)
			s.add(met)
		}
	}
	if len(s.nums) < 3000 {
		t.Errorf("only %d Nums", len(s.nums))
	}
}

// P21.5: a list that stands twice in what is handed in, as two Envs or as both lists of one, is told in new memory each time.
func TestSharedListsHandedIn(t *testing.T) {
	shared := list(in(0, 5))
	a := api.Table{both(shared, shared), both(shared, shared)}
	met, code := Meet(a, a)
	if code != api.OK || tellTable(met) != tellTable(a) {
		t.Fatalf("P21.3: Meet(%v, %v) = %v, %v", a, a, met, code)
	}
	newSharing(t).add(met)
	met[0].Vars[0] = is(7)
	if shared[0] != in(0, 5) || met[1].Vars[0] != in(0, 5) || met[0].Arrays[0] != in(0, 5) {
		t.Errorf("P21.5: who writes into an answer of Meet changes %v, %v", shared, met)
	}
}

// P21.5: who writes into one Env of Dead's answer changes no other one.
func TestDeadIsNew(t *testing.T) {
	for _, text := range []string{"", short, loop} {
		p := mustText(t, text)
		for _, c := range corners() {
			first, second := mustDead(t, p, c), mustDead(t, p, c)
			for i := range first {
				first[i].Dead = false
				for j := range first {
					if first[j].Dead != (j > i) {
						t.Fatalf("P21.5: who writes into the Env %d changes %d", i, j)
					}
				}
			}
			growTable(first)
			if tellTable(second) != tellTable(filled(len(second), lost())) {
				t.Fatalf("P21.5: who writes over an answer of Dead changes another one: %v", second)
			}
		}
	}
}

// Calls at the same time have nothing to do with one another.
func TestCallsAtTheSameTime(t *testing.T) {
	p, c := mustText(t, loop), api.Config{Hist: 1, Unroll: 2, Cap: 4, Fuel: 60}
	tape := []int64{-5, 1, 2, 3}
	u := least(t, p, c, states(t, p, c, tape))
	number := len(u)
	var group sync.WaitGroup
	for range 8 {
		group.Go(func() {
			for range 30 {
				if d, code := Dead(p, c); code != api.OK || len(d) != number {
					t.Errorf("P21.1: Dead is another one: %v", code)
				}
				wantFits(t, p, c, u, true)
				wantCovers(t, p, c, u, tape, true, 0)
				wantCovers(t, p, c, except(u, 1, lost()), tape, false, 1)
				wantMeet(t, u, u, u)
			}
		})
	}
	group.Wait()
}
