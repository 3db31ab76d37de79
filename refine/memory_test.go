package refine

import (
	"reflect"
	"slices"
	"testing"

	"winnow/api"
)

const mark = -987654321

// roomy is a list with marked room behind it.
func roomy[T any](list []T, marked T) []T {
	long := append(slices.Clone(list), marked, marked, marked)
	return long[:len(list)]
}

// whole is a list with the room behind it.
func whole[T any](list []T) []T { return slices.Clone(list[:cap(list)]) }

func roomyProg(p api.Prog) api.Prog {
	return api.Prog{
		Nodes: roomy(p.Nodes, api.Node{Depth: mark}), Scalars: roomy(p.Scalars, "mark"), Arrays: roomy(p.Arrays, api.Array{Len: mark}),
		Symbols: roomy(p.Symbols, mark), Sites: roomy(p.Sites, mark), SiteOf: roomy(p.SiteOf, mark),
	}
}

func wholeProg(p api.Prog) api.Prog {
	return api.Prog{
		Nodes: whole(p.Nodes), Scalars: whole(p.Scalars), Arrays: whole(p.Arrays),
		Symbols: whole(p.Symbols), Sites: whole(p.Sites), SiteOf: whole(p.SiteOf),
	}
}

func roomyConfig(c api.Config) api.Config {
	c.Thresholds = roomy(c.Thresholds, mark)
	return c
}

func wholeConfig(c api.Config) api.Config {
	c.Thresholds = whole(c.Thresholds)
	return c
}

// roomyTable has room behind its list and behind each list in it; in the room stand Envs with lists, too.
func roomyTable(t api.Table) api.Table {
	u := roomy(t, vars(is(mark)))
	for i, e := range u {
		u[i] = api.Env{Dead: e.Dead, Vars: roomy(e.Vars, is(mark)), Arrays: roomy(e.Arrays, is(mark))}
	}
	return u
}

func wholeTable(t api.Table) api.Table {
	u := whole(t)
	for i, e := range u {
		u[i] = api.Env{Dead: e.Dead, Vars: whole(e.Vars), Arrays: whole(e.Arrays)}
	}
	return u
}

// overwrite writes over all of a list, its room too.
func overwrite[T any](list []T, marked T) {
	list = list[:cap(list)]
	for i := range list {
		list[i] = marked
	}
}

// spoilTable grows all lists of a table, and writes over all of them, their room too.
func spoilTable(t api.Table) {
	for _, e := range t[:cap(t)] {
		_, _ = append(e.Vars, is(mark)), append(e.Arrays, is(mark))
		overwrite(e.Vars, is(mark))
		overwrite(e.Arrays, is(mark))
	}
	_ = append(t, vars(is(mark)))
	overwrite(t, vars(is(mark), is(mark)))
}

// growTables grows each list of some tables.
func growTables(tables []api.Table) {
	for _, u := range tables {
		for _, e := range u {
			_, _ = append(e.Vars, is(mark)), append(e.Arrays, is(mark))
		}
		_ = append(u, vars(is(mark)))
	}
	_ = append(tables, api.Table{vars(is(mark))})
}

// answer is all that Site and All answer.
type answer struct {
	verdict      api.Verdict
	tables       []api.Table
	applications int
	code         api.Errno
	result       api.Result
	code2        api.Errno
}

func (a answer) tell() []any {
	return []any{tellVerdict(a.verdict), tellTables(a.tables), a.applications, a.code, tellResult(a.result), a.code2}
}

// grow grows each list of an answer.
func (a answer) grow() {
	growTables(a.tables)
	_ = append(a.verdict.Tape, mark)
	for _, v := range a.result.Verdicts {
		_ = append(v.Tape, mark)
	}
	_ = append(a.result.Verdicts, unknown(mark))
}

// spoil writes over all lists of an answer, their room too.
func (a answer) spoil() {
	for _, u := range a.tables {
		spoilTable(u)
	}
	overwrite(a.tables, nil)
	overwrite(a.verdict.Tape, mark)
	for _, v := range a.result.Verdicts {
		overwrite(v.Tape, mark)
	}
	overwrite(a.result.Verdicts, unknown(mark))
}

// call is what Site and All are handed, with marked room behind all lists, and a copy of all of it.
type call struct {
	p     api.Prog
	c     api.Config
	first api.Table
	site  int
	kept  [3]any
}

func newCall(p api.Prog, c api.Config, first api.Table, site int) *call {
	k := &call{p: roomyProg(p), c: roomyConfig(c), first: roomyTable(first), site: site}
	k.kept = k.state()
	return k
}

func (k *call) state() [3]any { return [3]any{wholeProg(k.p), wholeConfig(k.c), wholeTable(k.first)} }

// stays holds that what was handed in is as it was.
func (k *call) stays(t *testing.T, what string) {
	t.Helper()
	if !reflect.DeepEqual(k.kept, k.state()) {
		t.Fatalf("P25.4: %s has changed what was handed in: %v, %+v, %v", what, k.p, k.c, k.first)
	}
}

// ask asks both.
func (k *call) ask(t *testing.T) (a answer) {
	t.Helper()
	a.verdict, a.tables, a.applications, a.code = Site(k.p, k.c, k.first, k.site)
	k.stays(t, "Site")
	a.result, a.code2 = All(k.p, k.c)
	k.stays(t, "All")
	return a
}

// overwrite writes over all numbers of all lists that were handed in, their room too.
func (k *call) overwrite() {
	spoilTable(k.first)
	overwrite(k.c.Thresholds, mark)
	overwrite(k.p.Nodes, api.Node{Depth: mark})
	overwrite(k.p.Symbols, mark)
	overwrite(k.p.Sites, mark)
	overwrite(k.p.SiteOf, mark)
}

// wantKeeps holds that both calls leave what they are handed, and tell the same behind a writing over of the first answers, which stay where what was handed in is written over. It tells the verdict.
func (k *call) wantKeeps(t *testing.T) api.Verdict {
	t.Helper()
	first := k.ask(t)
	told := first.tell()
	first.grow()
	if !reflect.DeepEqual(first.tell(), told) {
		t.Fatalf("P25.4: who grows a list of an answer changes it")
	}
	first.spoil()
	k.stays(t, "who writes over an answer")
	second := k.ask(t)
	if !reflect.DeepEqual(second.tell(), told) {
		t.Fatalf("P25.4: the answers are others later: %v, want %v", second.tell(), told)
	}
	k.ask(t).spoil()
	k.overwrite()
	if !reflect.DeepEqual(second.tell(), told) {
		t.Fatalf("P25.4: who writes over what was handed in, or over another answer, changes an answer: %v, want %v", second.tell(), told)
	}
	return second.verdict
}

// P25.4: what is handed in stays, with the room behind all lists; answers are new; right arguments.
func TestWhatIsHandedInStays(t *testing.T) {
	t.Parallel()
	kinds := map[api.VerdictKind]int{}
	rounds := map[int]int{}
	for _, text := range append(texts(), unlike(0), copies+"assert false; } }") {
		p := mustText(t, text)
		for i, c := range corners() {
			for j, first := range firsts(t, p, c) {
				if (i+j)%9 == 0 {
					v := newCall(p, c, first, (i+j)/9%len(p.Sites)).wantKeeps(t)
					kinds[v.Kind]++
					rounds[v.Round]++
				}
			}
		}
	}
	if kinds[api.Unknown] < 100 || kinds[api.Safe] < 100 || kinds[api.Definite] < 50 || rounds[1] < 100 || rounds[2] < 20 {
		t.Errorf("the verdicts are too much alike: %v, %v", kinds, rounds)
	}
}

// P25.4: likewise where the calls are refused.
func TestWhatIsRefusedStays(t *testing.T) {
	f := newFaults(t)
	for i, p := range f.progs {
		for j, c := range f.config {
			for k, first := range f.tables {
				newCall(p, c, first, f.sites[(i+j+k)%len(f.sites)]).wantKeeps(t)
			}
		}
	}
}

// P25.4: calls by chance.
func TestWhatIsHandedInStaysByChance(t *testing.T) {
	t.Parallel()
	m := newMaker(256)
	for i := range 80 {
		p, c := mustText(t, m.program(1+i%4)), m.config()
		newCall(p, c, m.first(t, p, c), m.Intn(len(p.Sites))).wantKeeps(t)
	}
}

// sharing looks whether any two of the lists that it is told share memory.
type sharing struct {
	t        *testing.T
	tables   map[*api.Table]int
	envs     map[*api.Env]int
	nums     map[*api.Num]int
	verdicts map[*api.Verdict]int
	numbers  map[*int64]int
	kept     []any // so that no memory is given out twice
}

func newSharing(t *testing.T) *sharing {
	return &sharing{
		t: t, tables: map[*api.Table]int{}, envs: map[*api.Env]int{}, nums: map[*api.Num]int{},
		verdicts: map[*api.Verdict]int{}, numbers: map[*int64]int{},
	}
}

// addAll counts where a list's elements stand, with those in the room behind it.
func addAll[T any](t *testing.T, seen map[*T]int, list []T) {
	t.Helper()
	list = list[:cap(list)]
	for i := range list {
		if seen[&list[i]]++; seen[&list[i]] > 1 {
			t.Fatalf("P25.4: two lists of %T share memory", list[i])
		}
	}
}

func (s *sharing) addTable(u api.Table) {
	s.t.Helper()
	s.kept = append(s.kept, u)
	addAll(s.t, s.envs, u)
	for _, e := range u[:cap(u)] {
		addAll(s.t, s.nums, e.Vars)
		addAll(s.t, s.nums, e.Arrays)
	}
}

func (s *sharing) addNumbers(list []int64) {
	s.t.Helper()
	s.kept = append(s.kept, list)
	addAll(s.t, s.numbers, list)
}

func (s *sharing) addTables(tables []api.Table) {
	s.t.Helper()
	s.kept = append(s.kept, tables)
	addAll(s.t, s.tables, tables)
	for _, u := range tables[:cap(tables)] {
		s.addTable(u)
	}
}

func (s *sharing) addResult(r api.Result) {
	s.t.Helper()
	s.kept = append(s.kept, r.Verdicts)
	addAll(s.t, s.verdicts, r.Verdicts)
	for _, v := range r.Verdicts[:cap(r.Verdicts)] {
		s.addNumbers(v.Tape)
	}
}

// P25.4: no two lists of one answer, no lists of two answers, and no list of an answer and of what was handed in share memory, not even in the room behind them.
func TestNothingIsShared(t *testing.T) {
	t.Parallel()
	s := newSharing(t)
	for _, text := range append(texts(), unlike(3), copies+"assert false; } }", chain+"assert t == 5; } } }") {
		p := mustText(t, text)
		for _, c := range corners()[:8] {
			c.Thresholds = append(make([]int64, 0, 9), c.Thresholds...)
			s.addNumbers(c.Thresholds)
			for _, first := range []api.Table{tops(t, p, c), firstOf(t, p, c)} {
				s.addTable(first)
				for site := range p.Sites {
					for range 2 {
						v, tables, _, _ := Site(p, c, first, site)
						s.addNumbers(v.Tape)
						s.addTables(tables)
					}
				}
			}
			for range 2 {
				r, _ := All(p, c)
				s.addResult(r)
			}
		}
	}
	if len(s.nums) < 20000 || len(s.tables) < 1000 || len(s.verdicts) < 1000 || len(s.numbers) < 1000 {
		t.Errorf("only %d Nums, %d tables, %d verdicts, %d numbers", len(s.nums), len(s.tables), len(s.verdicts), len(s.numbers))
	}
}

// P25.4: a list that stands more than once in what is handed in is told in new memory each time.
func TestSharedListsHandedIn(t *testing.T) {
	p, c := mustText(t, "var x; array a[2]; skip; skip; assert false;"), rounded(1, 0, 0)
	shared := list(in(0, 5))
	e := both(shared, shared)
	_, tables, _, code := Site(p, c, api.Table{e, e, e, e}, 0)
	if code != api.OK || len(tables) != 2 {
		t.Fatalf("P25.1: Site by %v = %v, %v", e, tables, code)
	}
	newSharing(t).addTables(tables)
	tables[0][1].Vars[0] = is(7)
	z := both(list(is(0)), list(is(0)))
	if shared[0] != in(0, 5) || tellTable(tables[0][2:3]) != tellTable(api.Table{e}) || tellTable(tables[1]) != tellTable(api.Table{z, z, z, lost()}) {
		t.Errorf("P25.4: who writes into an answer changes %v, %v", shared, tables)
	}
}
