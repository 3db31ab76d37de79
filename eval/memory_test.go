package eval

import (
	"math/rand"
	"reflect"
	"slices"
	"sync"
	"testing"

	"winnow/api"
)

const mark = -987654321

// roomy is a list with marked room behind it.
func roomy[T any](list []T, marked T) []T {
	long := append(slices.Clone(list), marked, marked, marked)
	return long[:len(list)]
}

func roomyStore(s api.Store) api.Store {
	u := api.Store{Vars: roomy(s.Vars, mark), Arrays: roomy(s.Arrays, []int64{mark})}
	for i, list := range u.Arrays {
		u.Arrays[i] = roomy(list, mark)
	}
	return u
}

func roomyProg(p api.Prog) api.Prog {
	return api.Prog{
		Nodes: roomy(p.Nodes, api.Node{Depth: mark}), Scalars: roomy(p.Scalars, "mark"), Arrays: roomy(p.Arrays, api.Array{Len: mark}),
		Symbols: roomy(p.Symbols, mark), Sites: roomy(p.Sites, mark), SiteOf: roomy(p.SiteOf, mark),
	}
}

// whole is a list with the room behind it.
func whole[T any](list []T) []T { return slices.Clone(list[:cap(list)]) }

func wholeStore(s api.Store) api.Store {
	u := api.Store{Vars: whole(s.Vars), Arrays: whole(s.Arrays)}
	for i, list := range u.Arrays {
		u.Arrays[i] = whole(list)
	}
	return u
}

func wholeProg(p api.Prog) api.Prog {
	return api.Prog{
		Nodes: whole(p.Nodes), Scalars: whole(p.Scalars), Arrays: whole(p.Arrays),
		Symbols: whole(p.Symbols), Sites: whole(p.Sites), SiteOf: whole(p.SiteOf),
	}
}

// overwrite fills a store's lists and the room behind them.
func overwrite(s api.Store, v int64) {
	fill := func(list []int64) {
		list = list[:cap(list)]
		for i := range list {
			list[i] = v
		}
	}
	fill(s.Vars)
	for _, list := range s.Arrays {
		fill(list)
	}
	s.Arrays = s.Arrays[:cap(s.Arrays)]
	for i := range s.Arrays {
		s.Arrays[i] = nil
	}
}

// lists are a store's lists of numbers, its scalars first.
func lists(s api.Store) [][]int64 { return append([][]int64{s.Vars}, s.Arrays...) }

// wantApart writes all over each list of an answer, the room behind it too, and looks whether the others stay.
func wantApart(t *testing.T, what string, s api.Store) {
	t.Helper()
	for i, written := range lists(s) {
		before := wholeStore(s)
		for j := range written[:cap(written)] {
			written[:cap(written)][j]++
		}
		after := wholeStore(s)
		for j, list := range lists(after) {
			if i != j && !slices.Equal(list, lists(before)[j]) {
				t.Errorf("P6.4: %s: the lists %d and %d share memory", what, i, j)
			}
		}
	}
}

// P6.4: what is handed in stays, with the room behind it, whatever is asked and whatever is done to the answer.
func TestWhatIsHandedInStays(t *testing.T) {
	m := &maker{Rand: rand.New(rand.NewSource(64))}
	for range 400 {
		p := roomyProg(m.program())
		s := roomyStore(m.store(p))
		prog, store := wholeProg(p), wholeStore(s)
		stays := func(what string) {
			t.Helper()
			if !reflect.DeepEqual(prog, wholeProg(p)) || !reflect.DeepEqual(store, wholeStore(s)) {
				t.Fatalf("P6.4: %s has changed what it was handed", what)
			}
		}
		zeros := mustZero(t, p)
		wantApart(t, "Zero", zeros)
		overwrite(zeros, 3)
		Fits(p, s)
		stays("Zero or Fits")
		for place := -1; place <= len(p.Nodes); place++ {
			Int(p, s, place)
			Bool(p, s, place)
			stays("Int or Bool")
			u, _, _ := Do(p, s, place, 8)
			stays("Do")
			wantApart(t, "Do", u)
			overwrite(u, 4)
			stays("who writes into Do's answer")
		}
		p.Nodes[0].Name = "1"
		prog = wholeProg(p)
		Zero(p)
		Do(p, s, 1, 8)
		stays("a refusal")
	}
}

// P6.4: an answer stays when what was handed in changes.
func TestAnswersStay(t *testing.T) {
	p := mustText(t, everyKind)
	for place := range p.Nodes {
		s := roomyStore(storeOf([]int64{1}, []int64{2, 3}))
		u, _, _ := Do(p, s, place, 8)
		before := wholeStore(u)
		overwrite(s, 5)
		if !reflect.DeepEqual(before, wholeStore(u)) {
			t.Errorf("P6.4: Do's answer at %d shares memory with the store", place)
		}
	}
	zeros := mustZero(t, p)
	overwrite(mustZero(t, p), 5)
	if !sameStore(zeros, storeOf([]int64{0}, []int64{0, 0})) {
		t.Error("P6.4: two answers of Zero share memory")
	}
}

// P6.4: lists of a store that share memory with one another, or with the room behind one another, are lists of their own in the answer.
func TestListsThatShare(t *testing.T) {
	p := mustText(t, "var x; var y; array a[2]; array b[2]; a[0] := 7; b[1] := 8; x := 9; skip;")
	one := []int64{1, 2, 3, 4}
	s := storeOf(one[0:2], one[0:2], one[1:3])
	wantDone(t, p, s, 4, 0, storeOf([]int64{1, 2}, []int64{7, 2}, []int64{2, 3}))
	wantDone(t, p, s, 7, 0, storeOf([]int64{1, 2}, []int64{1, 2}, []int64{2, 8}))
	wantDone(t, p, s, 10, 0, storeOf([]int64{9, 2}, []int64{1, 2}, []int64{2, 3}))
	u, _, _ := Do(p, s, 12, 0)
	wantApart(t, "Do of lists that share", u)
	if !slices.Equal(one, []int64{1, 2, 3, 4}) {
		t.Errorf("P6.4: the store was changed: %v", one)
	}
}

// Calls at the same time have nothing to do with one another, though some of them give a fault up.
func TestCallsAtTheSameTime(t *testing.T) {
	p := mustText(t, example)
	s := storeOf([]int64{1}, []int64{0, 0})
	var group sync.WaitGroup
	for i := range int64(8) {
		group.Go(func() {
			own := storeOf([]int64{i % 3}, s.Arrays[0])
			for range 200 {
				switch i % 3 {
				case 0:
					wantFault(t, p, own, 2, 1)
				case 1:
					wantDone(t, p, own, 2, 0, storeOf([]int64{1}, []int64{0, 1}))
				case 2:
					wantFault(t, p, own, 7, 2)
				}
				wantDone(t, p, s, 7, i, s)
			}
		})
	}
	group.Wait()
}
