package walk

import (
	"iter"
	"math/rand"
	"reflect"
	"slices"
	"sync"
	"testing"

	"winnow/api"
)

const mark = -987654321

// roomy is a list with marked room behind it.
func roomy[T any](list []T, marked T) []T {
	long := append(slices.Clone(list), marked, marked, marked)
	return long[:len(list)]
}

func roomyProg(p api.Prog) api.Prog {
	return api.Prog{
		Nodes: roomy(p.Nodes, api.Node{Depth: mark}), Scalars: roomy(p.Scalars, "mark"), Arrays: roomy(p.Arrays, api.Array{Len: mark}),
		Symbols: roomy(p.Symbols, mark), Sites: roomy(p.Sites, mark), SiteOf: roomy(p.SiteOf, mark),
	}
}

// whole is a list with the room behind it.
func whole[T any](list []T) []T { return slices.Clone(list[:cap(list)]) }

func wholeProg(p api.Prog) api.Prog {
	return api.Prog{
		Nodes: whole(p.Nodes), Scalars: whole(p.Scalars), Arrays: whole(p.Arrays),
		Symbols: whole(p.Symbols), Sites: whole(p.Sites), SiteOf: whole(p.SiteOf),
	}
}

// overwrite fills a list and the room behind it.
func overwrite[T any](list []T, v T) {
	list = list[:cap(list)]
	for i := range list {
		list[i] = v
	}
}

func overwriteProg(p api.Prog) {
	overwrite(p.Nodes, api.Node{Kind: mark})
	overwrite(p.Scalars, "mark")
	overwrite(p.Arrays, api.Array{Len: mark})
	overwrite(p.Symbols, mark)
	overwrite(p.Sites, mark)
	overwrite(p.SiteOf, mark)
}

func overwriteStore(s api.Store) {
	overwrite(s.Vars, mark)
	for _, list := range s.Arrays {
		overwrite(list, mark)
	}
	overwrite(s.Arrays, nil)
}

// wantApart writes a number of its own all over each list of some answers, the room behind it too, and looks whether each list has its own then.
func wantApart(t *testing.T, what string, stores ...api.Store) {
	t.Helper()
	var all [][]int64
	for _, s := range stores {
		all = append(append(all, s.Vars), s.Arrays...)
	}
	for i, list := range all {
		overwrite(list, int64(i))
	}
	for i, list := range all {
		for _, v := range list[:cap(list)] {
			if v != int64(i) {
				t.Fatalf("P9.5: %s: the lists %d and %d share memory", what, i, v)
			}
		}
	}
	outer := map[*[]int64]bool{}
	for _, s := range stores {
		if room := s.Arrays[:cap(s.Arrays)]; len(room) > 0 {
			if outer[&room[0]] {
				t.Fatalf("P9.5: %s: two stores share their arrays", what)
			}
			outer[&room[0]] = true
		}
	}
}

// P9.5: what is handed in stays, with the room behind it, whatever is asked and whatever is done to the answers; and these share nothing.
func TestWhatIsHandedInStays(t *testing.T) {
	m := maker{rand.New(rand.NewSource(95))}
	for range 300 {
		text, made := m.program()
		p, tape, fuel := roomyProg(made), roomy(m.tape(), mark), m.Intn(40)
		prog, numbers := wholeProg(p), whole(tape)
		stays := func(what string) {
			t.Helper()
			if !reflect.DeepEqual(prog, wholeProg(p)) || !slices.Equal(numbers, whole(tape)) {
				t.Fatalf("P9.5: %s has changed what it was handed: %s", what, text)
			}
		}
		_, last, _ := Run(p, tape, fuel)
		stays("Run")
		_, again, _ := Run(p, tape, fuel)
		path, _ := Path(p, tape, fuel)
		stays("Path")
		seq := Stops(p, tape, fuel)
		stays("Stops")
		stores := []api.Store{last, again}
		for range 2 {
			for _, s := range seq {
				stores = append(stores, s)
			}
		}
		stays("an iterator")
		wantApart(t, text, stores...)
		want := slices.Clone(path)
		overwrite(path, mark)
		stays("who writes into answers")
		if path, _ = Path(p, tape, fuel); !slices.Equal(path, want) {
			t.Fatalf("P9.5: %s: the path is %v, was %v", text, path, want)
		}
		for _, none := range []int{-1, api.MaxFuel + 1} {
			Run(p, tape, none)
			Path(p, tape, none)
			Stops(p, tape, none)
		}
		stays("a refusal")
	}
}

// P9.3: each store is new memory, also of two stops between which nothing was assigned.
func TestStoresBetweenWhichNothingIsAssigned(t *testing.T) {
	p := mustText(t, "var x; array a[2]; array b[1]; x := 4; a[1] := 5; skip; assert x == 4; if x == 4 { } while x < 4 { } skip;")
	seq := Stops(p, nil, 99)
	stops := collect(seq)
	if len(stops) != 8 {
		t.Fatalf("P9.3: %d stops, want 8", len(stops))
	}
	var stores []api.Store
	for i, s := range stops {
		want := storeOf([]int64{4}, []int64{0, 5}, []int64{0})
		if i >= 2 && !sameStore(s.store, want) {
			t.Errorf("P9.3: the stop %d is %v, want %v", i, s, want)
		}
		stores = append(stores, s.store)
	}
	wantApart(t, "nothing is assigned", stores...)
	// What is written into a store while the run is on its way plays no part in it.
	for _, s := range seq {
		overwriteStore(s)
	}
	for i, s := range collect(seq) {
		if i >= 2 && s.store.Vars[0] != 4 {
			t.Errorf("P9.3: the stop %d is %v behind one that was written over", i, s)
		}
	}
}

// P9.3: the iterator goes by copies: what is done to p and the tape behind the call plays no part, nor what is done to the stores that it gives.
func TestStopsGoByCopies(t *testing.T) {
	m := maker{rand.New(rand.NewSource(93))}
	for range 400 {
		text, made := m.program()
		p, tape, fuel := roomyProg(made), roomy(m.tape(), mark), m.Intn(40)
		want := toldByTheTree(p, slices.Clone(tape), fuel).stops
		untouched := Stops(p, tape, fuel)
		next, leave := iter.Pull2(Stops(p, tape, fuel))
		node, store, _ := next()
		overwriteProg(p)
		overwrite(tape, mark)
		got := []stop{{node, store}}
		for node, store, ok := next(); ok; node, store, ok = next() {
			got = append(got, stop{node, store})
		}
		leave()
		if !slices.EqualFunc(got, want, sameStop) {
			t.Fatalf("P9.3: %s: begun ahead of the change: %v, want %v", text, got, want)
		}
		for range 2 {
			i := 0
			for node, store := range untouched {
				if i >= len(want) || !sameStop(stop{node, store}, want[i]) {
					t.Fatalf("P9.3: %s: the stop %d is %d, %v", text, i, node, store)
				}
				overwriteStore(store)
				i++
			}
			if i != len(want) {
				t.Fatalf("P9.3: %s: %d stops, want %d", text, i, len(want))
			}
		}
	}
}

// P9.3: an iterator of a Prog that was none when it was asked for stays without stops, and one of a good Prog keeps them.
func TestStopsAreJudgedAtTheCall(t *testing.T) {
	p := mustText(t, asks)
	good := Stops(p, nil, 9)
	p.Scalars[0] = "q"
	bad := Stops(p, nil, 9)
	p.Scalars[0] = "x"
	if n := len(collect(bad)); n != 0 {
		t.Errorf("P9.3: %d stops of a Prog that was none", n)
	}
	p.Scalars[0] = "q"
	want := []stop{{0, storeOf([]int64{0})}}
	if got := collect(good); !slices.EqualFunc(got, want, sameStop) {
		t.Errorf("P9.3: the stops of a Prog that was one are %v", got)
	}
}

// P9.3: an iterator may be left at any place, and gives all from the beginning then.
func TestStopsLeftEarly(t *testing.T) {
	for _, c := range []struct {
		text string
		fuel int
	}{{asks, 9}, {counts, 99}, {counts, 3}, {everyKind, 99}, {"", 0}, {"var x; input x; input x; input x;", 9}} {
		p := mustText(t, c.text)
		tape := []int64{3, 6}
		want := toldByTheTree(p, tape, c.fuel).stops
		seq := Stops(p, tape, c.fuel)
		for at := range want {
			var got []stop
			for node, store := range seq {
				got = append(got, stop{node, store})
				if len(got) > at {
					break
				}
			}
			if !slices.EqualFunc(got, want[:at+1], sameStop) {
				t.Errorf("P9.3: %q left at %d: %v", c.text, at, got)
			}
			if all := collect(seq); !slices.EqualFunc(all, want, sameStop) {
				t.Errorf("P9.3: %q behind one that was left at %d: %v", c.text, at, all)
			}
		}
	}
}

// P9.3: an iterator that was left isn't asked on.
func TestStopsEndWhenLeft(t *testing.T) {
	asked := 0
	Stops(mustText(t, "while true { }"), nil, 99)(func(int, api.Store) bool {
		asked++
		return asked < 5
	})
	if asked != 5 {
		t.Errorf("P9.3: asked %d times, want 5", asked)
	}
}

// P9.3: an iterator may be ranged over inside itself, each time from the beginning.
func TestStopsInsideThemselves(t *testing.T) {
	p := mustText(t, everyKind)
	tape := []int64{-5, 6}
	want := toldByTheTree(p, tape, 99).stops
	seq := Stops(p, tape, 99)
	outer := 0
	for node, store := range seq {
		if !sameStop(stop{node, store}, want[outer]) {
			t.Errorf("P9.3: the outer stop %d is %d, %v", outer, node, store)
		}
		outer++
		inner := 0
		for node, store := range seq {
			if !sameStop(stop{node, store}, want[inner]) {
				t.Errorf("P9.3: the inner stop %d is %d, %v", inner, node, store)
			}
			if inner++; inner > outer {
				break
			}
		}
	}
	if outer != len(want) {
		t.Errorf("P9.3: %d stops, want %d", outer, len(want))
	}
}

// Calls at the same time have nothing to do with one another, not even those that range over one iterator.
func TestCallsAtTheSameTime(t *testing.T) {
	p := mustText(t, everyKind)
	tape := []int64{-5, 6}
	want := toldByTheTree(p, tape, 99)
	seq := Stops(p, tape, 99)
	var group sync.WaitGroup
	for range 8 {
		group.Go(func() {
			for range 50 {
				if out, s, code := Run(p, tape, 99); out != want.out || !sameStore(s, want.store) || code != api.OK {
					t.Errorf("P9.1: Run = %v, %v, %v", out, s, code)
				}
				if path, code := Path(p, tape, 99); !slices.Equal(path, want.path) || code != api.OK {
					t.Errorf("P9.2: Path = %v, %v", path, code)
				}
				if got := collect(seq); !slices.EqualFunc(got, want.stops, sameStop) {
					t.Errorf("P9.3: the stops are %v", got)
				}
			}
		})
	}
	group.Wait()
}
