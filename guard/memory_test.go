package guard

import (
	"reflect"
	"slices"
	"sync"
	"testing"

	"winnow/api"
)

const mark = -987654321

// roomy is a list with marked room behind it.
func roomy[T any](list []T, marked T) []T {
	long := append(slices.Clone(list), marked, marked, marked)
	return long[:len(list)]
}

// whole is a list with the room behind it.
func whole[T any](list []T) []T { return slices.Clone(list[:cap(list)]) }

func roomyEnv(e api.Env) api.Env {
	return api.Env{Dead: e.Dead, Vars: roomy(e.Vars, one(mark)), Arrays: roomy(e.Arrays, one(mark))}
}

func wholeEnv(e api.Env) api.Env {
	return api.Env{Dead: e.Dead, Vars: whole(e.Vars), Arrays: whole(e.Arrays)}
}

func roomyProg(p api.Prog) api.Prog {
	return api.Prog{
		Nodes: roomy(p.Nodes, api.Node{Depth: mark}), Scalars: roomy(p.Scalars, "mark"), Arrays: roomy(p.Arrays, api.Array{Len: mark}),
		Symbols: roomy(p.Symbols, mark), Sites: roomy(p.Sites, mark), SiteOf: roomy(p.SiteOf, mark),
	}
}

func wholeProg(p api.Prog) api.Prog {
	return api.Prog{
		Nodes: whole(p.Nodes), Scalars: whole(p.Scalars), Arrays: whole(p.Arrays),
		Symbols: whole(p.Symbols), Sites: whole(p.Sites), SiteOf: whole(p.SiteOf),
	}
}

// overwrite fills a list and the room behind it, and grows it.
func overwrite[T any](list []T, v T) {
	for i := range list[:cap(list)] {
		list[:cap(list)][i] = v
	}
	_ = append(append(list, v), v)
}

func overwriteEnv(e api.Env) {
	overwrite(e.Vars, one(mark))
	overwrite(e.Arrays, one(mark))
}

// answer is what a call gives.
type answer struct {
	env   api.Env
	sites []int
	code  api.Errno
}

func (a answer) copied() answer {
	return answer{api.Env{Dead: a.env.Dead, Vars: slices.Clone(a.env.Vars), Arrays: slices.Clone(a.env.Arrays)}, slices.Clone(a.sites), a.code}
}

func (a answer) same(b answer) bool {
	return alike(a.env, b.env) && slices.Equal(a.sites, b.sites) && a.code == b.code
}

// holdMemory asks one thing thrice and writes over the answers.
func holdMemory(t *testing.T, ask func() answer, stays func(what string)) {
	t.Helper()
	a := ask()
	stays("the call")
	first, b := a.copied(), ask()
	overwrite(a.env.Vars, one(mark))
	if !slices.Equal(a.env.Arrays, first.env.Arrays) {
		t.Fatalf("P17.4: an answer's lists share memory: %v, then %v", first.env, a.env)
	}
	overwrite(a.env.Arrays, one(mark))
	overwrite(a.sites, mark)
	stays("who writes into the answer")
	if !b.same(first) {
		t.Fatalf("P17.4: who writes into an answer has changed another one: %v, then %v", first, b)
	}
	if c := ask(); !c.same(first) {
		t.Fatalf("P17.4: the answer was %v, and is %v later", first, c)
	}
}

// P17.4: what is handed in stays, with the room behind it, whatever is asked and whatever is done to the answer; and a later answer is the same.
func TestWhatIsHandedInStays(t *testing.T) {
	m := newMaker(176)
	for range 300 {
		p := roomyProg(m.program())
		e := roomyEnv(m.env(p))
		if m.Intn(20) == 0 {
			e.Vars = roomy(append(e.Vars, one(1)), one(mark))
		}
		if m.Intn(20) == 0 {
			p.SiteOf[0] = 3
		}
		prog, kept := wholeProg(p), wholeEnv(e)
		stays := func(what string) {
			t.Helper()
			if !reflect.DeepEqual(prog, wholeProg(p)) || !reflect.DeepEqual(kept, wholeEnv(e)) {
				t.Fatalf("P17.4: %s has changed what was handed in", what)
			}
		}
		for place := -1; place <= len(p.Nodes); place++ {
			c, sense := m.num(), m.Intn(2) == 0
			holdMemory(t, func() answer {
				left, code := Back(p, e, place, c)
				return answer{env: left, code: code}
			}, stays)
			holdMemory(t, func() answer {
				left, sites, code := Filter(p, e, place, sense)
				return answer{left, sites, code}
			}, stays)
		}
	}
}

// P17.4: where all of the Env is left, the answer is a new one nevertheless.
func TestAllThatIsLeftIsNew(t *testing.T) {
	p := mustText(t, variables+"assert true && 7 < 9 || !(x == y);")
	e := of(one(1), one(2), one(3), one(4))
	for place, n := range p.Nodes {
		if isNumber2(n) {
			left, _ := Back(p, e, place, all())
			overwriteEnv(left)
		}
		if isCondition2(n) {
			for _, sense := range []bool{true, false} {
				left, _, _ := Filter(p, e, place, sense)
				overwriteEnv(left)
			}
		}
	}
	if !alike(e, of(one(1), one(2), one(3), one(4))) {
		t.Errorf("P17.4: an answer shares memory with the Env: %v", e)
	}
}

// P17.4: an answer stays when what was handed in changes.
func TestAnswersStay(t *testing.T) {
	p := roomyProg(mustText(t, variables+"assert b[x] / x < 9 && b[y] > 2;"))
	e := roomyEnv(of(in(0, 4), in(0, 4), in(5, 6), in(3, 9)))
	left, told, _ := Filter(p, e, here, true)
	back, _ := Back(p, e, 7, all())
	for _, list := range [][]int{p.Symbols, p.Sites, p.SiteOf} {
		overwrite(list, mark)
	}
	overwriteEnv(e)
	if !alike(left, of(in(1, 2), in(0, 2), in(5, 6), in(3, 9))) || !slices.Equal(told, sites(1, 2, 3)) || !alike(back, of(in(1, 2), in(0, 4), in(5, 6), in(3, 9))) {
		t.Errorf("P17.4: the answers share memory with what was handed in: %v, %v, %v", left, told, back)
	}
}

// P17.4: lists that share memory with one another are read as they are.
func TestListsThatShare(t *testing.T) {
	p := mustText(t, variables+"assert x + y < b[a[0]];")
	nums := list(in(0, 9), in(0, 2), nu(1, 5, 2, 0))
	e := both(nums[0:2], nums[1:3])
	wantFilter(t, p, e, here, true, of(in(0, 3), in(0, 2), in(0, 2), nu(2, 4, 2, 0)))
	if !slices.Equal(nums, list(in(0, 9), in(0, 2), nu(1, 5, 2, 0))) {
		t.Errorf("P17.4: the Env was changed: %v", nums)
	}
}

// Calls at the same time have nothing to do with one another.
func TestCallsAtTheSameTime(t *testing.T) {
	p := mustText(t, variables+"assert b[x] + 6 / x < 9 || x == 0;")
	e := of(in(0, 4), one(1), one(1), in(5, 6))
	var group sync.WaitGroup
	for range 8 {
		group.Go(func() {
			for range 100 {
				wantFilter(t, p, e, here, true, of(in(1, 2), one(1), one(1), in(5, 6)), 1, 2)
				wantFilter(t, p, e, here, false, of(in(1, 2), one(1), one(1), in(5, 6)), 1, 2)
				wantBack(t, p, e, here+2, all(), of(in(1, 2), one(1), one(1), in(5, 6)))
				refuseBoth(t, p, lost(), 4, api.ErrArg)
			}
		})
	}
	group.Wait()
}
