package proof

import (
	"reflect"
	"slices"
	"testing"

	"winnow/api"
)

const mark = -987654321

// roomy is a list with marked room behind it.
func roomy[T any](list []T, marked T) []T {
	long := append(slices.Clone(list), marked, marked, marked)
	return long[:len(list)]
}

// whole is a list with the room behind it.
func whole[T any](list []T) []T { return slices.Clone(list[:cap(list)]) }

func roomyProg(p api.Prog) api.Prog {
	return api.Prog{
		Nodes: roomy(p.Nodes, api.Node{Depth: mark}), Scalars: roomy(p.Scalars, "mark"), Arrays: roomy(p.Arrays, api.Array{Len: mark}),
		Symbols: roomy(p.Symbols, mark), Sites: roomy(p.Sites, mark), SiteOf: roomy(p.SiteOf, mark),
	}
}

func wholeProg(p api.Prog) api.Prog {
	return api.Prog{
		Nodes: whole(p.Nodes), Scalars: whole(p.Scalars), Arrays: whole(p.Arrays),
		Symbols: whole(p.Symbols), Sites: whole(p.Sites), SiteOf: whole(p.SiteOf),
	}
}

func roomyConfig(c api.Config) api.Config {
	c.Thresholds = roomy(c.Thresholds, mark)
	return c
}

func wholeConfig(c api.Config) api.Config {
	c.Thresholds = whole(c.Thresholds)
	return c
}

// roomyTable has room behind its list and behind each list in it; in the room stand Envs with lists, too.
func roomyTable(t api.Table) api.Table {
	u := roomy(t, vars(is(mark)))
	for i, e := range u {
		u[i] = api.Env{Dead: e.Dead, Vars: roomy(e.Vars, is(mark)), Arrays: roomy(e.Arrays, is(mark))}
	}
	return u
}

func wholeTable(t api.Table) api.Table {
	u := whole(t)
	for i, e := range u {
		u[i] = api.Env{Dead: e.Dead, Vars: whole(e.Vars), Arrays: whole(e.Arrays)}
	}
	return u
}

// overwrite writes over all of a list, its room too.
func overwrite[T any](list []T, marked T) {
	list = list[:cap(list)]
	for i := range list {
		list[i] = marked
	}
}

// spoilTable grows all lists of a table, and writes over all of them, their room too.
func spoilTable(t api.Table) {
	for _, e := range t[:cap(t)] {
		_, _ = append(e.Vars, is(mark)), append(e.Arrays, is(mark))
		overwrite(e.Vars, is(mark))
		overwrite(e.Arrays, is(mark))
	}
	_ = append(t, vars(is(mark)))
	overwrite(t, vars(is(mark), is(mark)))
}

// growTables grows each list of some tables.
func growTables(tables []api.Table) {
	for _, u := range tables {
		for _, e := range u {
			_, _ = append(e.Vars, is(mark)), append(e.Arrays, is(mark))
		}
		_ = append(u, vars(is(mark)))
	}
	_ = append(tables, api.Table{vars(is(mark))})
}

// spoilTables writes over all lists of some tables, their room too.
func spoilTables(tables []api.Table) {
	for _, u := range tables[:cap(tables)] {
		spoilTable(u)
	}
	overwrite(tables, api.Table{vars(is(mark))})
}

// call is what Check and Make are handed, with marked room behind all lists, and a copy of all of it.
type call struct {
	p      api.Prog
	c      api.Config
	site   int
	tables []api.Table
	kept   [3]any
}

func newCall(p api.Prog, c api.Config, site int, tables []api.Table) *call {
	k := &call{p: roomyProg(p), c: roomyConfig(c), site: site, tables: roomy(tables, api.Table{vars(is(mark))})}
	for i, u := range k.tables {
		k.tables[i] = roomyTable(u)
	}
	k.kept = k.state()
	return k
}

func (k *call) state() [3]any {
	tables := whole(k.tables)
	for i, u := range tables {
		tables[i] = wholeTable(u)
	}
	return [3]any{wholeProg(k.p), wholeConfig(k.c), tables}
}

// stays holds that what was handed in is as it was.
func (k *call) stays(t *testing.T, what string) {
	t.Helper()
	if !reflect.DeepEqual(k.kept, k.state()) {
		t.Fatalf("P26.5: %s has changed what was handed in: %v, %+v, %v", what, k.p, k.c, k.tables)
	}
}

// answer is all that Check and Make answer.
type answer struct {
	taken  bool
	tables []api.Table
	made   bool
}

func (a answer) tell() []any { return []any{a.taken, tellTables(a.tables), a.made} }

// ask asks both.
func (k *call) ask(t *testing.T) (a answer) {
	t.Helper()
	a.taken = Check(k.p, k.c, k.site, k.tables)
	k.stays(t, "Check")
	a.tables, a.made = Make(k.p, k.c, k.site)
	k.stays(t, "Make")
	return a
}

// overwrite writes over all lists that were handed in, their room too.
func (k *call) overwrite() {
	spoilTables(k.tables)
	overwrite(k.c.Thresholds, mark)
	overwrite(k.p.Nodes, api.Node{Depth: mark})
	overwrite(k.p.Scalars, "mark")
	overwrite(k.p.Arrays, api.Array{Len: mark})
	overwrite(k.p.Symbols, mark)
	overwrite(k.p.Sites, mark)
	overwrite(k.p.SiteOf, mark)
}

// wantKeeps holds that both calls leave what they are handed, and tell the same behind a writing over of the first answers, which stay where what was handed in is written over. It tells the answers.
func (k *call) wantKeeps(t *testing.T) answer {
	t.Helper()
	first := k.ask(t)
	told := first.tell()
	growTables(first.tables)
	if !reflect.DeepEqual(first.tell(), told) {
		t.Fatalf("P26.5: who grows a list of an answer changes it")
	}
	spoilTables(first.tables)
	k.stays(t, "who writes over an answer")
	second := k.ask(t)
	if !reflect.DeepEqual(second.tell(), told) {
		t.Fatalf("P26.5: the answers are others later: %v, want %v", second.tell(), told)
	}
	spoilTables(k.ask(t).tables)
	k.overwrite()
	if !reflect.DeepEqual(second.tell(), told) {
		t.Fatalf("P26.5: who writes over what was handed in, or over another answer, changes an answer: %v, want %v", second.tell(), told)
	}
	return second
}

// note counts what was answered.
func (a answer) note(seen map[string]int) {
	if a.taken {
		seen["taken"]++
	}
	seen["made"] += min(len(a.tables), 1)
	seen["several"] += len(a.tables) / 2
}

// P26.5: what is handed in stays, with the room behind all lists; answers are new; right arguments.
func TestWhatIsHandedInStays(t *testing.T) {
	y := eachText(t, texts(), func(t *testing.T, p api.Prog, y *tally) {
		seen := map[string]int{}
		for j, c := range corners() {
			if j%3 > 0 {
				continue
			}
			for site := range p.Sites {
				w := newWords(t, p, c, site)
				for k, tables := range append(w.lists(), w.chains()...) {
					if (j+k+site)%9 == 0 {
						newCall(p, c, site, tables).wantKeeps(t).note(seen)
					}
				}
			}
		}
		y.add(seen)
	})
	wantSeen(t, y.seen, map[string]int{"taken": 400, "made": 900, "several": 250})
}

// P26.5: likewise where the calls are refused.
func TestWhatIsRefusedStays(t *testing.T) {
	f := newFaults(t)
	for i, p := range f.progs {
		for j, c := range f.config {
			for k, tables := range f.chains {
				newCall(p, c, f.sites[(i+j+k)%len(f.sites)], tables).wantKeeps(t)
			}
		}
	}
}

// P26.5: calls by chance.
func TestWhatIsHandedInStaysByChance(t *testing.T) {
	y := eachTurn(t, 265, 80, func(t *testing.T, m maker, y *tally) {
		p, c := mustText(t, m.program(1+m.Intn(4))), m.config()
		seen := map[string]int{}
		w := newWords(t, p, c, m.Intn(len(p.Sites)))
		all := tops(t, p, c)
		pool := append(w.rounds(), all, filled(len(all), lost()))
		for range 5 {
			newCall(p, c, w.site, m.some(w, pool)).wantKeeps(t).note(seen)
		}
		y.add(seen)
	})
	wantSeen(t, y.seen, map[string]int{"taken": 40, "made": 120})
}

// sharing looks whether any two of the lists that it is told share memory.
type sharing struct {
	t       *testing.T
	tables  map[*api.Table]int
	envs    map[*api.Env]int
	nums    map[*api.Num]int
	numbers map[*int64]int
	kept    []any // so that no memory is given out twice
}

func newSharing(t *testing.T) *sharing {
	return &sharing{t: t, tables: map[*api.Table]int{}, envs: map[*api.Env]int{}, nums: map[*api.Num]int{}, numbers: map[*int64]int{}}
}

// addAll counts where a list's elements stand, with those in the room behind it.
func addAll[T any](t *testing.T, seen map[*T]int, list []T) {
	t.Helper()
	list = list[:cap(list)]
	for i := range list {
		if seen[&list[i]]++; seen[&list[i]] > 1 {
			t.Fatalf("P26.5: two lists of %T share memory", list[i])
		}
	}
}

func (s *sharing) addTable(u api.Table) {
	s.t.Helper()
	s.kept = append(s.kept, u)
	addAll(s.t, s.envs, u)
	for _, e := range u[:cap(u)] {
		addAll(s.t, s.nums, e.Vars)
		addAll(s.t, s.nums, e.Arrays)
	}
}

func (s *sharing) addTables(tables []api.Table) {
	s.t.Helper()
	s.kept = append(s.kept, tables)
	addAll(s.t, s.tables, tables)
	for _, u := range tables[:cap(tables)] {
		s.addTable(u)
	}
}

// P26.5: no two lists of one answer, no lists of two answers, and no list of an answer and of what was handed in share memory, not even in the room behind them.
func TestNothingIsShared(t *testing.T) {
	t.Parallel()
	s := newSharing(t)
	for _, text := range append(texts(), middle, climb) {
		p := mustText(t, text)
		for _, c := range corners()[:8] {
			c.Thresholds = append(make([]int64, 0, 9), c.Thresholds...)
			s.kept = append(s.kept, c.Thresholds)
			addAll(t, s.numbers, c.Thresholds)
			for site := range p.Sites {
				for range 2 {
					tables, _ := Make(p, c, site)
					s.addTables(tables)
					if len(tables) > 0 && !Check(p, c, site, tables) {
						t.Errorf("P26.3: Check doesn't take what Make makes of the site %d of %q", site, text)
					}
				}
			}
		}
	}
	if len(s.nums) < 7000 || len(s.envs) < 3000 || len(s.tables) < 400 {
		t.Errorf("only %d Nums, %d Envs, %d tables", len(s.nums), len(s.envs), len(s.tables))
	}
}

// P26.1, P26.5: tables that stand more than once in what is handed in, and Envs and Nums that do.
func TestSharedListsHandedIn(t *testing.T) {
	p, c := mustText(t, calm), plain()
	number := len(tops(t, p, c))
	shared := list(every(), every(), every())
	e := api.Env{Vars: shared[:2], Arrays: shared[2:]}
	one := slices.Repeat(api.Table{e}, number)
	wantCheck(t, p, c, 0, true, one)
	wantCheck(t, p, c, 0, true, one, one, one)
	wantCheck(t, p, c, 0, false, one, one)
	wantCheck(t, p, c, 0, true, times(7, one)...)
	if !slices.Equal(shared, list(every(), every(), every())) || !reflect.DeepEqual(one, slices.Repeat(api.Table{e}, number)) {
		t.Errorf("P26.5: Check has changed %v, %v", shared, one)
	}
}
