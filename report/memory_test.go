package report

import (
	"reflect"
	"slices"
	"testing"

	"winnow/api"
)

const mark = -987654321

// roomy is a list with marked room behind it.
func roomy[T any](list []T, marked T) []T {
	long := append(slices.Clone(list), marked, marked, marked)
	return long[:len(list)]
}

// whole is a list with the room behind it.
func whole[T any](list []T) []T { return slices.Clone(list[:cap(list)]) }

// overwrite writes over all of a list, its room too.
func overwrite[T any](list []T, marked T) {
	list = list[:cap(list)]
	for i := range list {
		list[i] = marked
	}
}

func roomyProg(p api.Prog) api.Prog {
	return api.Prog{
		Nodes: roomy(p.Nodes, api.Node{Depth: mark}), Scalars: roomy(p.Scalars, "mark"), Arrays: roomy(p.Arrays, api.Array{Len: mark}),
		Symbols: roomy(p.Symbols, mark), Sites: roomy(p.Sites, mark), SiteOf: roomy(p.SiteOf, mark),
	}
}

func wholeProg(p api.Prog) api.Prog {
	return api.Prog{
		Nodes: whole(p.Nodes), Scalars: whole(p.Scalars), Arrays: whole(p.Arrays),
		Symbols: whole(p.Symbols), Sites: whole(p.Sites), SiteOf: whole(p.SiteOf),
	}
}

// roomyVerdicts has room behind its list, with a verdict that has a tape in it, and behind each tape.
func roomyVerdicts(list []api.Verdict) []api.Verdict {
	long := roomy(list, definite(1, 9, mark))
	all := long[:cap(long)]
	for i, v := range all {
		all[i].Tape = roomy(v.Tape, mark)
	}
	return long
}

func wholeVerdicts(list []api.Verdict) []api.Verdict {
	long := whole(list)
	for i, v := range long {
		long[i].Tape = whole(v.Tape)
	}
	return long
}

// growVerdicts grows each list.
func growVerdicts(list []api.Verdict) {
	for _, v := range list {
		_ = append(v.Tape, mark)
	}
	_ = append(list, unknown(mark))
}

// spoilVerdicts writes over all lists, their room too.
func spoilVerdicts(list []api.Verdict) {
	for _, v := range list[:cap(list)] {
		overwrite(v.Tape, mark)
	}
	overwrite(list, unknown(mark))
}

// answer is all that Lines and Parse answer.
type answer struct {
	lines    []string
	code     api.Errno
	verdicts []api.Verdict
	code2    api.Errno
	at       int
}

// tell is a copy of an answer.
func (a answer) tell() []any {
	var verdicts []api.Verdict
	for _, v := range a.verdicts {
		v.Tape = append([]int64{}, v.Tape...)
		verdicts = append(verdicts, v)
	}
	return []any{append([]string{}, a.lines...), a.code, verdicts, a.code2, a.at}
}

func (a answer) grow() {
	_ = append(a.lines, "mark")
	growVerdicts(a.verdicts)
}

func (a answer) spoil() {
	overwrite(a.lines, "mark")
	spoilVerdicts(a.verdicts)
}

// call is what Lines and Parse are handed, with marked room behind all lists, and a copy of all of it.
type call struct {
	p     api.Prog
	r     api.Result
	lines []string
	kept  [4]any
}

func newCall(p api.Prog, r api.Result, lines []string) *call {
	k := &call{p: roomyProg(p), r: api.Result{Verdicts: roomyVerdicts(r.Verdicts), Posts: r.Posts}, lines: roomy(lines, "site")}
	k.kept = k.state()
	return k
}

func (k *call) state() [4]any {
	return [4]any{wholeProg(k.p), wholeVerdicts(k.r.Verdicts), k.r.Posts, whole(k.lines)}
}

// stays holds that what was handed in is as it was.
func (k *call) stays(t *testing.T, what string) {
	t.Helper()
	if !reflect.DeepEqual(k.kept, k.state()) {
		t.Fatalf("P27.4: %s has changed what was handed in: %v, %+v, %q", what, k.p, k.r, k.lines)
	}
}

// ask asks both.
func (k *call) ask(t *testing.T) (a answer) {
	t.Helper()
	a.lines, a.code = Lines(k.p, k.r)
	k.stays(t, "Lines")
	a.verdicts, a.code2, a.at = Parse(k.lines)
	k.stays(t, "Parse")
	return a
}

// overwrite writes over all lists that were handed in, their room too.
func (k *call) overwrite() {
	overwrite(k.p.Nodes, api.Node{Depth: mark})
	overwrite(k.p.Scalars, "mark")
	overwrite(k.p.Arrays, api.Array{Len: mark})
	overwrite(k.p.Symbols, mark)
	overwrite(k.p.Sites, mark)
	overwrite(k.p.SiteOf, mark)
	spoilVerdicts(k.r.Verdicts)
	overwrite(k.lines, "site")
}

// wantKeeps holds that both calls leave what they are handed, and tell the same behind a writing over of the first answers, which stay where what was handed in is written over. It tells the answers.
func (k *call) wantKeeps(t *testing.T) answer {
	t.Helper()
	first := k.ask(t)
	told := first.tell()
	first.grow()
	if !reflect.DeepEqual(first.tell(), told) {
		t.Fatalf("P27.4: who grows a list of an answer changes it")
	}
	first.spoil()
	k.stays(t, "who writes over an answer")
	second := k.ask(t)
	if !reflect.DeepEqual(second.tell(), told) {
		t.Fatalf("P27.4: the answers are others later: %v, want %v", second.tell(), told)
	}
	k.ask(t).spoil()
	k.overwrite()
	if !reflect.DeepEqual(second.tell(), told) {
		t.Fatalf("P27.4: who writes over what was handed in, or over another answer, changes an answer: %v, want %v", second.tell(), told)
	}
	return second
}

// P27.4: what is handed in stays, with the room behind all lists; answers are new; right arguments.
func TestWhatIsHandedInStays(t *testing.T) {
	m := newMaker(275)
	for i := range 400 {
		list := m.words(i % (api.MaxSites + 1))
		var verdicts []api.Verdict
		for range list {
			verdicts = append(verdicts, m.verdict())
		}
		a := newCall(withSites(t, list...), api.Result{Verdicts: verdicts, Posts: i}, expectedLines(list, verdicts)).wantKeeps(t)
		if a.code != api.OK || a.code2 != api.OK || !slices.Equal(a.lines, expectedLines(list, verdicts)) || !sameVerdicts(a.verdicts, verdicts) {
			t.Errorf("P27.4: %+v with room is told as %q, %v, read as %+v, %v", verdicts, a.lines, a.code, a.verdicts, a.code2)
		}
	}
}

// P27.4: likewise where the calls are refused.
func TestWhatIsRefusedStays(t *testing.T) {
	progs := append(bad(t), mustText(t, chapter), mustText(t, ""))
	var tapes []api.Verdict
	for _, v := range append(odd(), fine()...) {
		if len(v.Tape) < 100 {
			tapes = append(tapes, v)
		}
	}
	for i, p := range progs {
		for j, v := range tapes {
			lines := calm(1 + (i+j)%14)
			if j%3 > 0 {
				lines[j%len(lines)] += " "
			}
			newCall(p, api.Result{Verdicts: slices.Repeat([]api.Verdict{v}, j%4), Posts: j}, lines).wantKeeps(t)
		}
	}
	for _, line := range wrongLines(1) {
		newCall(progs[len(line)%len(progs)], api.Result{}, []string{calm(1)[0], line, "", "x"}).wantKeeps(t)
	}
}

// sharing looks whether any two of the lists that it is told share memory.
type sharing struct {
	t        *testing.T
	lines    map[*string]int
	verdicts map[*api.Verdict]int
	numbers  map[*int64]int
	kept     []any // so that no memory is given out twice
}

func newSharing(t *testing.T) *sharing {
	return &sharing{t: t, lines: map[*string]int{}, verdicts: map[*api.Verdict]int{}, numbers: map[*int64]int{}}
}

// addAll counts where a list's elements stand, with those in the room behind it.
func addAll[T any](s *sharing, seen map[*T]int, list []T) {
	s.t.Helper()
	s.kept = append(s.kept, list)
	list = list[:cap(list)]
	for i := range list {
		if seen[&list[i]]++; seen[&list[i]] > 1 {
			s.t.Fatalf("P27.4: two lists of %T share memory", list[i])
		}
	}
}

func (s *sharing) addVerdicts(list []api.Verdict) {
	s.t.Helper()
	addAll(s, s.verdicts, list)
	for _, v := range list[:cap(list)] {
		addAll(s, s.numbers, v.Tape)
	}
}

// P27.4: no two tapes of an answer, no lists of two answers, and no list of an answer and of what was handed in share memory, not even in the room behind them.
func TestNothingIsShared(t *testing.T) {
	m, s := newMaker(276), newSharing(t)
	for i := range 300 {
		list := m.words(i % (api.MaxSites + 1))
		p := withSites(t, list...)
		var verdicts []api.Verdict
		for range list {
			verdicts = append(verdicts, definite(m.Intn(4), 5000, counted(m.Intn(40))...))
		}
		verdicts = roomyVerdicts(verdicts)
		lines := roomy(expectedLines(list, verdicts), "site")
		s.addVerdicts(verdicts)
		addAll(s, s.lines, lines)
		for range 3 {
			told, _ := Lines(p, api.Result{Verdicts: verdicts})
			addAll(s, s.lines, told)
			read, _, _ := Parse(lines)
			s.addVerdicts(read)
			if len(told) != len(list) || len(read) != len(list) {
				t.Fatalf("P27.4: %q, %+v", told, read)
			}
		}
	}
	if len(s.lines) < 5000 || len(s.verdicts) < 5000 || len(s.numbers) < 50000 {
		t.Errorf("only %d lines, %d verdicts, %d numbers", len(s.lines), len(s.verdicts), len(s.numbers))
	}
}

// P27.4: a tape that stands more than once in what is handed in is told each time, and stays.
func TestSharedTapesHandedIn(t *testing.T) {
	tape := []int64{4, -4, 0}
	p := withSites(t, "load", "store")
	wantLines(t, p, []api.Verdict{definite(0, 4, tape...), {Kind: api.Definite, Tape: tape[:2], Steps: 3}},
		"site 0 load: definite in round 0 at step 4 with tape [4 -4 0]", "site 1 store: definite in round 0 at step 3 with tape [4 -4]")
	if !slices.Equal(tape, []int64{4, -4, 0}) {
		t.Errorf("P27.4: the tape is %d", tape)
	}
	same := "site 0 load: definite in round 0 at step 4 with tape [4 -4 0]"
	first, _, _ := Parse([]string{same})
	second, _, _ := Parse([]string{same})
	first[0].Tape[1] = 9
	if !slices.Equal(second[0].Tape, tape) {
		t.Errorf("P27.4: who writes into an answer changes another one: %d", second[0].Tape)
	}
}
