package interp

import (
	"iter"
	"math/rand"
	"reflect"
	"slices"
	"sync"
	"testing"

	"winnow/api"
)

const mark = -987654321

// roomy is a list with marked room behind it.
func roomy[T any](list []T, marked T) []T {
	long := append(slices.Clone(list), marked, marked, marked)
	return long[:len(list)]
}

func roomyProg(p api.Prog) api.Prog {
	return api.Prog{
		Nodes: roomy(p.Nodes, api.Node{Depth: mark}), Scalars: roomy(p.Scalars, "mark"), Arrays: roomy(p.Arrays, api.Array{Len: mark}),
		Symbols: roomy(p.Symbols, mark), Sites: roomy(p.Sites, mark), SiteOf: roomy(p.SiteOf, mark),
	}
}

// whole is a list with the room behind it.
func whole[T any](list []T) []T { return slices.Clone(list[:cap(list)]) }

func wholeProg(p api.Prog) api.Prog {
	return api.Prog{
		Nodes: whole(p.Nodes), Scalars: whole(p.Scalars), Arrays: whole(p.Arrays),
		Symbols: whole(p.Symbols), Sites: whole(p.Sites), SiteOf: whole(p.SiteOf),
	}
}

// overwrite fills a list and the room behind it.
func overwrite[T any](list []T, v T) {
	list = list[:cap(list)]
	for i := range list {
		list[i] = v
	}
}

func overwriteProg(p api.Prog) {
	overwrite(p.Nodes, api.Node{Kind: mark})
	overwrite(p.Scalars, "mark")
	overwrite(p.Arrays, api.Array{Len: mark})
	overwrite(p.Symbols, mark)
	overwrite(p.Sites, mark)
	overwrite(p.SiteOf, mark)
}

func overwriteStore(s api.Store) {
	overwrite(s.Vars, mark)
	for _, list := range s.Arrays {
		overwrite(list, mark)
	}
	overwrite(s.Arrays, nil)
}

// lists are the lists of numbers of some stores.
func lists(stores ...api.Store) [][]int64 {
	var all [][]int64
	for _, s := range stores {
		all = append(append(all, s.Vars), s.Arrays...)
	}
	return all
}

// wantApart writes a number of its own all over each list of some answers, the room behind it too, and looks whether each list has its own then.
func wantApart(t *testing.T, what string, stores ...api.Store) {
	t.Helper()
	all := lists(stores...)
	for i, list := range all {
		overwrite(list, int64(i))
	}
	for i, list := range all {
		for _, v := range list[:cap(list)] {
			if v != int64(i) {
				t.Fatalf("P7.4: %s: the lists %d and %d share memory", what, i, v)
			}
		}
	}
	outer := map[*[]int64]bool{}
	for _, s := range stores {
		if room := s.Arrays[:cap(s.Arrays)]; len(room) > 0 {
			if outer[&room[0]] {
				t.Fatalf("P7.4: %s: two stores share their arrays", what)
			}
			outer[&room[0]] = true
		}
	}
}

// P7.4: what is handed in stays, with the room behind it, whatever is asked and whatever is done to the answers; and these share nothing.
func TestWhatIsHandedInStays(t *testing.T) {
	m := maker{rand.New(rand.NewSource(74))}
	for range 300 {
		text, made := m.program()
		p, tape, fuel := roomyProg(made), roomy(m.tape(), mark), m.Intn(40)
		prog, numbers := wholeProg(p), whole(tape)
		stays := func(what string) {
			t.Helper()
			if !reflect.DeepEqual(prog, wholeProg(p)) || !slices.Equal(numbers, whole(tape)) {
				t.Fatalf("P7.4: %s has changed what it was handed: %s", what, text)
			}
		}
		_, last, _ := Run(p, tape, fuel)
		stays("Run")
		_, again, _ := Run(p, tape, fuel)
		seq := Moments(p, tape, fuel)
		stays("Moments")
		stores := []api.Store{last, again}
		for range 2 {
			for look := range seq {
				stores = append(stores, look.Store)
			}
		}
		stays("an iterator")
		wantApart(t, text, stores...)
		stays("who writes into answers")
		for _, none := range []int{-1, api.MaxFuel + 1} {
			Run(p, tape, none)
			Moments(p, tape, none)
		}
		stays("a refusal")
	}
}

// P7.2: the iterator goes by copies: what is done to p and the tape behind the call plays no part, nor what is done to the Stores that it gives.
func TestMomentsGoByCopies(t *testing.T) {
	m := maker{rand.New(rand.NewSource(72))}
	for range 400 {
		text, made := m.program()
		p, tape, fuel := roomyProg(made), roomy(m.tape(), mark), m.Intn(40)
		want := playedByTheWords(p, slices.Clone(tape), fuel).looks
		untouched := Moments(p, tape, fuel)
		begun := Moments(p, tape, fuel)
		next, stop := iter.Pull(begun)
		first, _ := next()
		overwriteProg(p)
		overwrite(tape, mark)
		got := []api.Moment{first}
		for look, ok := next(); ok; look, ok = next() {
			got = append(got, look)
		}
		stop()
		if !slices.EqualFunc(got, want, sameMoment) {
			t.Fatalf("P7.2: %s: begun ahead of the change: %v, want %v", text, got, want)
		}
		for range 2 {
			i := 0
			for look := range untouched {
				if i >= len(want) || !sameMoment(look, want[i]) {
					t.Fatalf("P7.2: %s: the moment %d is %v", text, i, look)
				}
				overwriteStore(look.Store)
				i++
			}
			if i != len(want) {
				t.Fatalf("P7.2: %s: %d moments, want %d", text, i, len(want))
			}
		}
	}
}

// P7.2: an iterator of a Prog that was none when it was asked for stays without moments, and one of a good Prog keeps them.
func TestMomentsAreJudgedAtTheCall(t *testing.T) {
	p := mustText(t, asks)
	good := Moments(p, nil, 9)
	p.Scalars[0] = "q"
	bad := Moments(p, nil, 9)
	p.Scalars[0] = "x"
	if n := len(slices.Collect(bad)); n != 0 {
		t.Errorf("P7.2: %d moments of a Prog that was none", n)
	}
	p.Scalars[0] = "q"
	want := []api.Moment{{Place: 1, Store: storeOf([]int64{0})}}
	if got := slices.Collect(good); !slices.EqualFunc(got, want, sameMoment) {
		t.Errorf("P7.2: the moments of a Prog that was one are %v", got)
	}
}

// P7.2: an iterator may be left at any place, and gives all from the beginning then.
func TestMomentsLeftEarly(t *testing.T) {
	for _, c := range []struct {
		text string
		fuel int
	}{{asks, 9}, {counts, 99}, {counts, 3}, {everyKind, 99}, {"", 0}, {"var x; input x; input x; input x;", 9}} {
		p := mustText(t, c.text)
		tape := []int64{3, 6}
		want := playedByTheWords(p, tape, c.fuel).looks
		seq := Moments(p, tape, c.fuel)
		for at := range want {
			var got []api.Moment
			for look := range seq {
				got = append(got, look)
				if len(got) > at {
					break
				}
			}
			if !slices.EqualFunc(got, want[:at+1], sameMoment) {
				t.Errorf("P7.2: %q left at %d: %v", c.text, at, got)
			}
			if all := slices.Collect(seq); !slices.EqualFunc(all, want, sameMoment) {
				t.Errorf("P7.2: %q behind one that was left at %d: %v", c.text, at, all)
			}
		}
	}
}

// P7.2: an iterator that was left isn't asked on.
func TestMomentsEndWhenLeft(t *testing.T) {
	asked := 0
	Moments(mustText(t, "while true { }"), nil, 99)(func(api.Moment) bool {
		asked++
		return asked < 5
	})
	if asked != 5 {
		t.Errorf("P7.2: asked %d times, want 5", asked)
	}
}

// P7.2: an iterator may be ranged over inside itself, each time from the beginning.
func TestMomentsInsideThemselves(t *testing.T) {
	p := mustText(t, everyKind)
	tape := []int64{-5, 6}
	want := playedByTheWords(p, tape, 99).looks
	seq := Moments(p, tape, 99)
	outer := 0
	for look := range seq {
		if !sameMoment(look, want[outer]) {
			t.Errorf("P7.2: the outer moment %d is %v", outer, look)
		}
		outer++
		inner := 0
		for deeper := range seq {
			if !sameMoment(deeper, want[inner]) {
				t.Errorf("P7.2: the inner moment %d is %v", inner, deeper)
			}
			if inner++; inner > outer {
				break
			}
		}
	}
	if outer != len(want) {
		t.Errorf("P7.2: %d moments, want %d", outer, len(want))
	}
}

// Calls at the same time have nothing to do with one another, not even those that range over one iterator.
func TestCallsAtTheSameTime(t *testing.T) {
	p := mustText(t, everyKind)
	tape := []int64{-5, 6}
	want := playedByTheWords(p, tape, 99)
	seq := Moments(p, tape, 99)
	var group sync.WaitGroup
	for range 8 {
		group.Go(func() {
			for range 50 {
				if out, s, code := Run(p, tape, 99); out != want.out || !sameStore(s, want.store) || code != api.OK {
					t.Errorf("P7.1: Run = %v, %v, %v", out, s, code)
				}
				if got := slices.Collect(seq); !slices.EqualFunc(got, want.looks, sameMoment) {
					t.Errorf("P7.2: the moments are %v", got)
				}
			}
		})
	}
	group.Wait()
}
