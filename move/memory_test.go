package move

import (
	"reflect"
	"slices"
	"sync"
	"testing"

	"winnow/api"
)

const mark = -987654321

// roomy is a list with marked room behind it.
func roomy[T any](list []T, marked T) []T {
	long := append(slices.Clone(list), marked, marked, marked)
	return long[:len(list)]
}

// whole is a list with the room behind it.
func whole[T any](list []T) []T { return slices.Clone(list[:cap(list)]) }

func roomyEnv(e api.Env) api.Env {
	return api.Env{Dead: e.Dead, Vars: roomy(e.Vars, one(mark)), Arrays: roomy(e.Arrays, one(mark))}
}

func wholeEnv(e api.Env) api.Env {
	return api.Env{Dead: e.Dead, Vars: whole(e.Vars), Arrays: whole(e.Arrays)}
}

func roomyProg(p api.Prog) api.Prog {
	return api.Prog{
		Nodes: roomy(p.Nodes, api.Node{Depth: mark}), Scalars: roomy(p.Scalars, "mark"), Arrays: roomy(p.Arrays, api.Array{Len: mark}),
		Symbols: roomy(p.Symbols, mark), Sites: roomy(p.Sites, mark), SiteOf: roomy(p.SiteOf, mark),
	}
}

func wholeProg(p api.Prog) api.Prog {
	return api.Prog{
		Nodes: whole(p.Nodes), Scalars: whole(p.Scalars), Arrays: whole(p.Arrays),
		Symbols: whole(p.Symbols), Sites: whole(p.Sites), SiteOf: whole(p.SiteOf),
	}
}

// overwrite fills a list and the room behind it, and grows it.
func overwrite[T any](list []T, v T) {
	for i := range list[:cap(list)] {
		list[:cap(list)][i] = v
	}
	_ = append(append(list, v), v)
}

func overwriteEnv(e api.Env) {
	overwrite(e.Vars, one(mark))
	overwrite(e.Arrays, one(mark))
}

// answer is what a call gives.
type answer struct {
	env   api.Env
	sites []int
	code  api.Errno
}

func (a answer) copied() answer {
	return answer{api.Env{Dead: a.env.Dead, Vars: slices.Clone(a.env.Vars), Arrays: slices.Clone(a.env.Arrays)}, slices.Clone(a.sites), a.code}
}

func (a answer) same(b answer) bool {
	return alike(a.env, b.env) && slices.Equal(a.sites, b.sites) && a.code == b.code
}

// holdMemory asks one thing thrice and writes over the answers.
func holdMemory(t *testing.T, ask func() answer, stays func(what string)) {
	t.Helper()
	a := ask()
	stays("the call")
	first, b := a.copied(), ask()
	overwrite(a.env.Vars, one(mark))
	if !slices.Equal(a.env.Arrays, first.env.Arrays) {
		t.Fatalf("P18.6: an answer's lists share memory: %v, then %v", first.env, a.env)
	}
	overwrite(a.env.Arrays, one(mark))
	overwrite(a.sites, mark)
	stays("who writes into the answer")
	if !b.same(first) {
		t.Fatalf("P18.6: who writes into an answer has changed another one: %v, then %v", first, b)
	}
	if c := ask(); !c.same(first) {
		t.Fatalf("P18.6: the answer was %v, and is %v later", first, c)
	}
}

// holdMemoryOfAll asks all calls of an edge.
func holdMemoryOfAll(t *testing.T, p api.Prog, edge int, e, f api.Env, stays func(what string)) {
	t.Helper()
	holdMemory(t, func() answer {
		after, sites, code := Post(p, edge, e)
		return answer{after, sites, code}
	}, stays)
	holdMemory(t, func() answer {
		left, code := Pre(p, edge, e, f)
		return answer{env: left, code: code}
	}, stays)
	holdMemory(t, func() answer { return answer{sites: Holds(p, edge)} }, stays)
	for site := range p.Sites {
		holdMemory(t, func() answer {
			left, code := Seed(p, edge, e, site)
			return answer{env: left, code: code}
		}, stays)
	}
}

// P18.6: what is handed in stays, with the room behind it, whatever is asked and whatever is done to the answer; and a later answer is the same.
func TestWhatIsHandedInStays(t *testing.T) {
	m := newMaker(185)
	for range 400 {
		p := roomyProg(m.program())
		edges := len(edgesOf(t, p))
		e, f := roomyEnv(m.env(p)), roomyEnv(m.env(p))
		if m.Intn(2) == 0 {
			f = e // one Env ahead and behind
		}
		if m.Intn(20) == 0 {
			e.Vars = roomy(append(e.Vars, one(1)), one(mark))
		}
		if m.Intn(20) == 0 {
			p.SiteOf[0] = 3
		}
		prog, kept, behind := wholeProg(p), wholeEnv(e), wholeEnv(f)
		stays := func(what string) {
			t.Helper()
			if !reflect.DeepEqual(prog, wholeProg(p)) || !reflect.DeepEqual(kept, wholeEnv(e)) || !reflect.DeepEqual(behind, wholeEnv(f)) {
				t.Fatalf("P18.6: %s has changed what was handed in", what)
			}
		}
		for edge := -1; edge <= edges; edge++ {
			holdMemoryOfAll(t, p, edge, e, f, stays)
		}
	}
}

// P18.6: where all of the Env is left, or comes through, the answer is a new one nevertheless.
func TestAllThatIsLeftIsNew(t *testing.T) {
	p := mustText(t, variables+"skip; assert true; x := x; b[0] := b[0]; a[0] := a[0]; input x; if true { } while false { } x := 1 / 0; assert false; b[9] := 1;")
	prog := wholeProg(p)
	e := of(one(1), one(2), one(3), one(4))
	f := of(one(1), one(2), one(3), one(4))
	for edge := range edgesOf(t, p) {
		after, sites, _ := Post(p, edge, e)
		overwriteEnv(after)
		overwrite(sites, mark)
		left, _ := Pre(p, edge, e, f)
		overwriteEnv(left)
		for _, site := range Holds(p, edge) {
			left, _ = Seed(p, edge, e, site)
			overwriteEnv(left)
		}
		overwrite(Holds(p, edge), mark)
	}
	if want := of(one(1), one(2), one(3), one(4)); !alike(e, want) || !alike(f, want) || !reflect.DeepEqual(prog, wholeProg(p)) {
		t.Errorf("P18.6: an answer shares memory with what was handed in: %v, %v, %v", e, f, p)
	}
}

// P18.6: an answer stays when what was handed in changes.
func TestAnswersStay(t *testing.T) {
	p := roomyProg(mustText(t, variables+"b[x] := 6 / y; skip;"))
	e := roomyEnv(of(in(0, 4), in(0, 3), in(5, 6), in(3, 9)))
	f := roomyEnv(of(in(1, 9), in(0, 9), in(5, 6), in(3, 9)))
	after, told, _ := Post(p, 0, e)
	left, _ := Pre(p, 0, e, f)
	same, _ := Pre(p, 1, e, f)
	seed, _ := Seed(p, 0, e, 1)
	held := Holds(p, 0)
	for _, list := range [][]int{p.Symbols, p.Sites, p.SiteOf} {
		overwrite(list, mark)
	}
	overwriteEnv(e)
	overwriteEnv(f)
	if !alike(after, of(in(0, 2), in(0, 3), in(5, 6), in(2, 9))) || !slices.Equal(told, sites(0, 1)) || !slices.Equal(held, sites(0, 1)) {
		t.Errorf("P18.6: the answers share memory with what was handed in: %v, %v, %v", after, told, held)
	}
	if !alike(left, of(in(1, 2), in(1, 3), in(5, 6), in(3, 9))) || !alike(same, of(in(1, 4), in(0, 3), in(5, 6), in(3, 9))) || !alike(seed, of(in(0, 2), one(0), in(5, 6), in(3, 9))) {
		t.Errorf("P18.6: the answers share memory with what was handed in: %v, %v, %v", left, same, seed)
	}
}

// P18.6: lists that share memory with one another are read as they are.
func TestListsThatShare(t *testing.T) {
	p := mustText(t, variables+"b[x] := x + y;")
	nums := list(in(0, 9), in(0, 2), nu(1, 5, 2, 0))
	e, f := both(nums[0:2], nums[1:3]), both(nums[0:2], nums[1:3])
	wantPost(t, p, 0, e, of(in(0, 2), in(0, 2), in(0, 2), in(0, 4)), 0)
	wantPre(t, p, 0, e, f, of(in(0, 2), in(0, 2), in(0, 2), nu(2, 4, 2, 0)))
	wantSeed(t, p, 0, e, 0, of(in(3, 9), in(0, 2), in(0, 2), nu(2, 4, 2, 0)))
	if !slices.Equal(nums, list(in(0, 9), in(0, 2), nu(1, 5, 2, 0))) {
		t.Errorf("P18.6: the Envs were changed: %v", nums)
	}
}

// Calls at the same time have nothing to do with one another.
func TestCallsAtTheSameTime(t *testing.T) {
	p := mustText(t, variables+"b[x] := 6 / x; while b[x] < 9 { input y; }")
	e := of(in(0, 4), one(1), one(1), in(5, 6))
	var group sync.WaitGroup
	for range 8 {
		group.Go(func() {
			for range 100 {
				wantPost(t, p, 0, e, of(in(0, 2), one(1), one(1), in(3, 6)), 0, 1)
				wantPost(t, p, 1, e, of(in(0, 2), one(1), one(1), in(5, 6)), 2)
				wantPre(t, p, 3, e, of(all(), one(7), all(), all()), e)
				wantSeed(t, p, 0, e, 1, of(one(0), one(1), one(1), in(5, 6)))
				refuseSeed(t, p, 3, e, 1, api.ErrArg)
				wantHolds(t, p, 2, 2)
			}
		})
	}
	group.Wait()
}
