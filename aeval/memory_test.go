package aeval

import (
	"math/rand"
	"reflect"
	"slices"
	"sync"
	"testing"

	"winnow/api"
)

const mark = -987654321

// roomy is a list with marked room behind it.
func roomy[T any](list []T, marked T) []T {
	long := append(slices.Clone(list), marked, marked, marked)
	return long[:len(list)]
}

// whole is a list with the room behind it.
func whole[T any](list []T) []T { return slices.Clone(list[:cap(list)]) }

func roomyEnv(e api.Env) api.Env {
	return api.Env{Dead: e.Dead, Vars: roomy(e.Vars, one(mark)), Arrays: roomy(e.Arrays, one(mark))}
}

func wholeEnv(e api.Env) api.Env {
	return api.Env{Dead: e.Dead, Vars: whole(e.Vars), Arrays: whole(e.Arrays)}
}

func roomyProg(p api.Prog) api.Prog {
	return api.Prog{
		Nodes: roomy(p.Nodes, api.Node{Depth: mark}), Scalars: roomy(p.Scalars, "mark"), Arrays: roomy(p.Arrays, api.Array{Len: mark}),
		Symbols: roomy(p.Symbols, mark), Sites: roomy(p.Sites, mark), SiteOf: roomy(p.SiteOf, mark),
	}
}

func wholeProg(p api.Prog) api.Prog {
	return api.Prog{
		Nodes: whole(p.Nodes), Scalars: whole(p.Scalars), Arrays: whole(p.Arrays),
		Symbols: whole(p.Symbols), Sites: whole(p.Sites), SiteOf: whole(p.SiteOf),
	}
}

// overwrite fills a list and the room behind it, and grows it.
func overwrite(list []int, v int) {
	for i := range list[:cap(list)] {
		list[:cap(list)][i] = v
	}
	_ = append(append(list, v), v)
}

// P16.3: what is handed in stays, with the room behind it, whatever is asked and whatever is done to the answer; and a later answer is the same.
func TestWhatIsHandedInStays(t *testing.T) {
	m, told := &maker{Rand: rand.New(rand.NewSource(165))}, 0
	for range 600 {
		p := roomyProg(m.program())
		e := roomyEnv(m.env(p))
		if m.Intn(20) == 0 {
			e.Vars = roomy(append(e.Vars, one(1)), one(mark))
		}
		if m.Intn(20) == 0 {
			p.SiteOf[0] = 3
		}
		prog, kept := wholeProg(p), wholeEnv(e)
		stays := func(what string) {
			t.Helper()
			if !reflect.DeepEqual(prog, wholeProg(p)) || !reflect.DeepEqual(kept, wholeEnv(e)) {
				t.Fatalf("P16.3: %s has changed what was handed in", what)
			}
		}
		for place := -1; place <= len(p.Nodes); place++ {
			value, sites, code := Eval(p, e, place)
			stays("Eval")
			first := slices.Clone(sites)
			again, more, _ := Eval(p, e, place)
			overwrite(sites, mark)
			stays("who writes into the answer")
			if !slices.Equal(more, first) {
				t.Fatalf("P16.3: who writes into an answer's sites has changed another answer: %v, then %v", first, more)
			}
			if third, rest, errno := Eval(p, e, place); third != value || again != value || !slices.Equal(rest, first) || errno != code {
				t.Fatalf("P16.3: Eval at %d = %v, %v, %v, then %v, %v, %v", place, value, first, code, third, rest, errno)
			}
			told += len(first)
		}
	}
	if told < 500 {
		t.Errorf("only %d sites were told", told)
	}
}

// P16.3: an answer stays when what was handed in changes.
func TestAnswersStay(t *testing.T) {
	p := roomyProg(mustText(t, "var x; array a[2]; x := a[x / x] / a[x % x];"))
	e := roomyEnv(xa(in(0, 2), in(0, 2)))
	_, sites, _ := Eval(p, e, 3)
	for _, list := range [][]int{p.Symbols, p.Sites, p.SiteOf} {
		overwrite(list, mark)
	}
	for _, list := range [][]api.Num{e.Vars, e.Arrays} {
		for i := range list[:cap(list)] {
			list[:cap(list)][i] = no()
		}
	}
	if !slices.Equal(sites, []int{0, 1, 2, 4}) {
		t.Errorf("P16.3: the answer shares memory with what was handed in: %v", sites)
	}
}

// P16.3: lists that share memory with one another are read as they are.
func TestListsThatShare(t *testing.T) {
	p := mustText(t, "var x; var y; array a[2]; array b[2]; x := b[y - 2] + a[0] * x;")
	nums := list(one(1), in(2, 3), nu(1, 5, 2, 0))
	e := both(nums[0:2], nums[1:3])
	wantEval(t, p, e, 5, in(4, 7))
	if !slices.Equal(nums, list(one(1), in(2, 3), nu(1, 5, 2, 0))) {
		t.Errorf("P16.3: the Env was changed: %v", nums)
	}
}

// Calls at the same time have nothing to do with one another.
func TestCallsAtTheSameTime(t *testing.T) {
	p := mustText(t, "var x; array a[2]; x := a[x] + 6 / x;")
	var group sync.WaitGroup
	for range 8 {
		group.Go(func() {
			for range 200 {
				wantEval(t, p, xa(in(0, 2), in(5, 6)), 3, in(8, 12), 0, 1)
				wantEval(t, p, xa(one(1), in(5, 6)), 3, in(11, 12))
				wantEval(t, p, xa(one(2), in(5, 6)), 3, no(), 0)
				wantCode(t, p, lost(), 2, api.ErrArg)
			}
		})
	}
	group.Wait()
}
