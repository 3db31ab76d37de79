package env

import (
	"math/rand"
	"reflect"
	"slices"
	"sync"
	"testing"

	"winnow/api"
)

const mark = -987654321

// roomy is a list with marked room behind it.
func roomy[T any](list []T, marked T) []T {
	long := append(slices.Clone(list), marked, marked, marked)
	return long[:len(list)]
}

// whole is a list with the room behind it.
func whole[T any](list []T) []T { return slices.Clone(list[:cap(list)]) }

func roomyEnv(e api.Env) api.Env {
	return api.Env{Dead: e.Dead, Vars: roomy(e.Vars, one(mark)), Arrays: roomy(e.Arrays, one(mark))}
}

func wholeEnv(e api.Env) api.Env {
	return api.Env{Dead: e.Dead, Vars: whole(e.Vars), Arrays: whole(e.Arrays)}
}

func roomyStore(s api.Store) api.Store {
	u := api.Store{Vars: roomy(s.Vars, mark), Arrays: roomy(s.Arrays, []int64{mark})}
	for i, list := range u.Arrays {
		u.Arrays[i] = roomy(list, mark)
	}
	return u
}

func wholeStore(s api.Store) api.Store {
	u := api.Store{Vars: whole(s.Vars), Arrays: whole(s.Arrays)}
	for i, list := range u.Arrays {
		u.Arrays[i] = whole(list)
	}
	return u
}

func roomyProg(p api.Prog) api.Prog {
	return api.Prog{
		Nodes: roomy(p.Nodes, api.Node{Depth: mark}), Scalars: roomy(p.Scalars, "mark"), Arrays: roomy(p.Arrays, api.Array{Len: mark}),
		Symbols: roomy(p.Symbols, mark), Sites: roomy(p.Sites, mark), SiteOf: roomy(p.SiteOf, mark),
	}
}

func wholeProg(p api.Prog) api.Prog {
	return api.Prog{
		Nodes: whole(p.Nodes), Scalars: whole(p.Scalars), Arrays: whole(p.Arrays),
		Symbols: whole(p.Symbols), Sites: whole(p.Sites), SiteOf: whole(p.SiteOf),
	}
}

// overwrite fills a list and the room behind it.
func overwrite(list []api.Num, a api.Num) {
	list = list[:cap(list)]
	for i := range list {
		list[i] = a
	}
}

// wantApart writes all over each list of an answer, the room behind it too, and looks whether the other one stays.
func wantApart(t *testing.T, what string, e api.Env) {
	t.Helper()
	arrays := whole(e.Arrays)
	overwrite(e.Vars, one(3))
	if !slices.Equal(arrays, whole(e.Arrays)) {
		t.Errorf("P15.7: %s: the two lists of one answer share memory", what)
	}
	overwrite(e.Arrays, one(4))
	if slices.Contains(whole(e.Vars), one(4)) {
		t.Errorf("P15.7: %s: the two lists of one answer share memory", what)
	}
}

// calls are all calls that answer an Env, of what they are handed.
func calls(e, f api.Env, i int, a api.Num, thresholds []int64) map[string]func() api.Env {
	return map[string]func() api.Env{
		"Norm":     func() api.Env { return Norm(e) },
		"Join":     func() api.Env { return Join(e, f) },
		"Widen":    func() api.Env { return Widen(e, f, thresholds) },
		"Meet":     func() api.Env { return Meet(e, f) },
		"SetVar":   func() api.Env { return SetVar(e, i, a) },
		"SetArray": func() api.Env { return SetArray(e, i, a) },
	}
}

// P15.7: what is handed in stays, with the room behind it, whatever is asked and whatever is done to the answer; and a later answer is the same.
func TestWhatIsHandedInStays(t *testing.T) {
	m := rand.New(rand.NewSource(157))
	for range 2000 {
		e := envByChance(m, m.Intn(4), m.Intn(4))
		f := roomyEnv(related(m, e))
		s, thresholds := roomyStore(storeByChance(m, e)), roomy(thresholdsByChance(m), mark)
		e = roomyEnv(e)
		e1, f1, s1, thresholds1 := wholeEnv(e), wholeEnv(f), wholeStore(s), whole(thresholds)
		stays := func(what string) {
			t.Helper()
			if !reflect.DeepEqual(e1, wholeEnv(e)) || !reflect.DeepEqual(f1, wholeEnv(f)) || !reflect.DeepEqual(s1, wholeStore(s)) || !slices.Equal(thresholds1, whole(thresholds)) {
				t.Fatalf("P15.7: %s has changed what it was handed", what)
			}
		}
		Has(e, s)
		Leq(e, f)
		Same(e, f)
		stays("Has, Leq or Same")
		for name, call := range calls(e, f, m.Intn(5)-1, numByChance(m), thresholds) {
			answer := call()
			stays(name)
			first := wholeEnv(answer)
			wantApart(t, name, answer)
			stays("who writes into the answer of " + name)
			if again := call(); !equal(Norm(again), again) || again.Dead != first.Dead || !slices.Equal(again.Vars, first.Vars[:len(again.Vars)]) || !slices.Equal(again.Arrays, first.Arrays[:len(again.Arrays)]) {
				t.Fatalf("P15.7: %s answers %v, then %v", name, first, again)
			}
		}
	}
}

// P15.7: an answer stays when what was handed in changes.
func TestAnswersStay(t *testing.T) {
	m := rand.New(rand.NewSource(158))
	for range 2000 {
		e := envByChance(m, m.Intn(4), m.Intn(4))
		f, thresholds := related(m, e), thresholdsByChance(m)
		i, a := m.Intn(5)-1, numByChance(m)
		for name := range calls(e, f, i, a, thresholds) {
			e, f, thresholds := roomyEnv(e), roomyEnv(f), roomy(thresholds, mark)
			answer := calls(e, f, i, a, thresholds)[name]()
			before := wholeEnv(answer)
			for _, list := range [][]api.Num{e.Vars, e.Arrays, f.Vars, f.Arrays} {
				overwrite(list, one(5))
			}
			for j := range thresholds {
				thresholds[j] = 5
			}
			if !reflect.DeepEqual(before, wholeEnv(answer)) {
				t.Fatalf("P15.7: the answer of %s shares memory with what was handed in", name)
			}
		}
	}
}

// P15.7: Progs stay, and the answers of Zero and Top are new each time.
func TestProgsStay(t *testing.T) {
	progs := refused(t)
	for _, text := range []string{"", "var x;", "array a[2];", "var x; var y; array a[2]; array b[3]; a[x] := b[y] / 2; assert x < 3;"} {
		progs = append(progs, mustText(t, text))
	}
	for i, p := range progs {
		p = roomyProg(p)
		before := wholeProg(p)
		for _, call := range []func(p api.Prog) (api.Env, api.Errno){Zero, Top} {
			first, code := call(p)
			kept := Norm(first)
			wantApart(t, "Zero or Top", first)
			again, more := call(p)
			if !equal(again, kept) || more != code {
				t.Errorf("P15.7: of the Prog %d: %v, %d, then %v, %d", i, kept, code, again, more)
			}
		}
		for _, e := range []api.Env{{}, lost(), roomyEnv(both(list(one(1), in(3, 2)), list(in(0, 9), one(2))))} {
			kept := wholeEnv(e)
			Fits(p, e)
			if !reflect.DeepEqual(kept, wholeEnv(e)) {
				t.Errorf("P15.7: Fits has changed %v", kept)
			}
		}
		if !reflect.DeepEqual(before, wholeProg(p)) {
			t.Errorf("P15.7: the Prog %d was changed", i)
		}
	}
}

// Calls at the same time have nothing to do with one another.
func TestCallsAtTheSameTime(t *testing.T) {
	thresholds := []int64{9, -5, 100}
	e, f := both(list(in(0, 2), one(1)), list(nu(1, 5, 2, 0))), both(list(in(1, 4), one(1)), list(one(4)))
	var group sync.WaitGroup
	for range 8 {
		group.Go(func() {
			for range 200 {
				want(t, "P15.5", Widen(e, f, thresholds), both(list(in(0, 9), one(1)), list(nu(2, 4, 2, 0))), "Widen(e, f)")
				want(t, "P15.5", Meet(e, f), both(list(in(1, 2), one(1)), list(one(4))), "Meet(e, f)")
				want(t, "P15.6", SetVar(e, 1, one(6)), both(list(in(0, 2), one(6)), list(nu(2, 4, 2, 0))), "SetVar(e, 1, 6)")
			}
		})
	}
	group.Wait()
}
