package wto

import (
	"math/rand"
	"slices"
	"sync"
	"testing"

	"winnow/api"
)

var mark = api.Arc{From: -987654321, To: -123456789}

// roomy is a list with marked room behind it.
func roomy(list []api.Arc) []api.Arc {
	long := append(slices.Clone(list), mark, mark, mark)
	return long[:len(list)]
}

// whole is a list with the room behind it.
func whole(list []api.Arc) []api.Arc { return slices.Clone(list[:cap(list)]) }

// overwrite fills a list and the room behind it.
func overwrite[T any](list []T, v T) {
	list = list[:cap(list)]
	for i := range list {
		list[i] = v
	}
}

// P10.4: arcs stay, with the room behind them, whatever is asked and whatever is done to the answers; and two answers, also to one question, share nothing.
func TestWhatIsHandedInStays(t *testing.T) {
	m := rand.New(rand.NewSource(104))
	for range 2000 {
		n, arcs, root := byChance(m)
		arcs = roomy(arcs)
		ahead := whole(arcs)
		stays := func(what string) {
			t.Helper()
			if !slices.Equal(ahead, whole(arcs)) {
				t.Fatalf("P10.4: %s has changed the arcs %v", what, arcs)
			}
		}
		one, _ := Order(n, arcs, root)
		stays("Order")
		two, _ := Order(n, arcs, root)
		want := slices.Clone(two)
		overwrite(one, api.Elem{Vertex: -1, Depth: -2, Head: true})
		stays("who writes into an answer")
		if !slices.Equal(two, want) {
			t.Fatalf("P10.4: two answers of %v share memory", arcs)
		}
		overwrite(two, api.Elem{Vertex: -3})
		if three, _ := Order(n, arcs, root); !slices.Equal(three, want) {
			t.Fatalf("P10.4: Order of %v is %v, was %v", arcs, three, want)
		}
		Order(n, arcs, -1)
		Order(0, arcs, root)
		stays("a refusal")
		three, _ := Order(n, arcs, root)
		overwrite(arcs, mark)
		if !slices.Equal(three, want) {
			t.Fatalf("P10.4: an answer shares memory with the arcs: %v, was %v", three, want)
		}
	}
}

// Calls at the same time have nothing to do with one another.
func TestCallsAtTheSameTime(t *testing.T) {
	arcs := arcsOf("0-1 1-2 2-3 3-4 4-5 5-4 3-6 5-6 6-2 1-7 6-7")
	var group sync.WaitGroup
	for range 8 {
		group.Go(func() {
			for range 100 {
				if list, code := Order(8, arcs, 0); written(list) != "0 1 (2 3 (4 5) 6) 7" || code != api.OK {
					t.Errorf("P10.1: Order = %s, %v", written(list), code)
				}
			}
		})
	}
	group.Wait()
}
