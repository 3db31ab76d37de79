package check

import (
	"math"
	"reflect"
	"slices"
	"testing"
	"unsafe"

	"winnow/api"
)

// copied shares no list with p.
func copied(p api.Prog) api.Prog {
	return api.Prog{
		Nodes: slices.Clone(p.Nodes), Scalars: slices.Clone(p.Scalars), Arrays: slices.Clone(p.Arrays),
		Symbols: slices.Clone(p.Symbols), Sites: slices.Clone(p.Sites), SiteOf: slices.Clone(p.SiteOf),
	}
}

// otherNodes are those that differ from n in one field, At aside.
func otherNodes(n api.Node) []api.Node {
	others := []api.Node{n, n, n, n, n, n, n, n, n}
	others[0].Depth++
	others[1].Depth--
	others[2].Kind++
	others[3].Kind = -1
	others[4].Name += "z"
	others[5].Name = "x y"
	others[6].Num++
	others[7].Num = math.MinInt64
	others[8].Op++
	return others
}

// changedNumbers are lists that differ from list: each of its numbers another, or gone, and one more at each place.
func changedNumbers(list []int) [][]int {
	var all [][]int
	for i, v := range list {
		for _, other := range []int{v + 1, v - 1, -2, math.MinInt, math.MaxInt} {
			changed := slices.Clone(list)
			changed[i] = other
			all = append(all, changed)
		}
		if i > 0 && list[i-1] != v {
			swapped := slices.Clone(list)
			swapped[i], swapped[i-1] = swapped[i-1], v
			all = append(all, swapped)
		}
		all = append(all, slices.Delete(slices.Clone(list), i, i+1))
	}
	for _, v := range []int{-1, 0, len(list)} {
		all = append(all, append(slices.Clone(list), v), append([]int{v}, list...))
	}
	if len(list) > 0 {
		all = append(all, nil)
	}
	return all
}

// changedLists are Progs that differ from p in one of its lists, its nodes aside.
func changedLists(p api.Prog) []api.Prog {
	var all []api.Prog
	change := func(how func(q *api.Prog)) {
		q := copied(p)
		how(&q)
		all = append(all, q)
	}
	for i := range p.Scalars {
		change(func(q *api.Prog) { q.Scalars[i] += "z" })
		change(func(q *api.Prog) { q.Scalars[i] = "" })
		change(func(q *api.Prog) { q.Scalars = slices.Delete(q.Scalars, i, i+1) })
	}
	change(func(q *api.Prog) { q.Scalars = append(q.Scalars, "z") })
	change(func(q *api.Prog) { q.Scalars = append(q.Scalars, "") })
	change(func(q *api.Prog) { q.Scalars = append([]string{"z"}, q.Scalars...) })
	for i := range p.Arrays {
		change(func(q *api.Prog) { q.Arrays[i].Name += "z" })
		change(func(q *api.Prog) { q.Arrays[i].Name = "" })
		change(func(q *api.Prog) { q.Arrays[i].Len++ })
		change(func(q *api.Prog) { q.Arrays[i].Len = 0 })
		change(func(q *api.Prog) { q.Arrays = slices.Delete(q.Arrays, i, i+1) })
	}
	change(func(q *api.Prog) { q.Arrays = append(q.Arrays, api.Array{}) })
	change(func(q *api.Prog) { q.Arrays = append([]api.Array{{Name: "z", Len: 1}}, q.Arrays...) })
	for _, list := range changedNumbers(p.Symbols) {
		change(func(q *api.Prog) { q.Symbols = list })
	}
	for _, list := range changedNumbers(p.Sites) {
		change(func(q *api.Prog) { q.Sites = list })
	}
	for _, list := range changedNumbers(p.SiteOf) {
		change(func(q *api.Prog) { q.SiteOf = list })
	}
	return all
}

// P4.3: Good of what Program answers, and of the same with one thing another.
func TestGood(t *testing.T) {
	for _, text := range []string{"", "skip;", "var x;", "array a[1];", example, everyKind} {
		p := mustText(t, text)
		if !Good(p) {
			t.Errorf("P4.3: Text(%q) isn't Good", text)
		}
		for _, q := range changedLists(p) {
			if Good(q) {
				t.Errorf("P4.3: %v is Good, with %v it would be", q, p)
			}
		}
		for i := range p.Nodes {
			q := copied(p)
			q.Nodes[i].At = math.MinInt
			if !Good(q) {
				t.Errorf("P4.3: Good looks at At of the node %d", i)
			}
			q.Nodes = slices.Delete(q.Nodes, i, i+1)
			if Good(q) {
				t.Errorf("P4.3: without the node %d it is Good: %v", i, q)
			}
		}
		q := copied(p)
		q.Nodes = append(q.Nodes, api.Node{Depth: 1, Kind: api.KSkip})
		if Good(q) {
			t.Errorf("P4.3: with one node more it is Good: %v", q)
		}
	}
}

// P4.3: with another node a Prog is Good if Program tells the same lists of its nodes, and only then.
func TestGoodWithOtherNodes(t *testing.T) {
	taken, refused := 0, 0
	for _, text := range []string{example, everyKind, "var x; var xz; array a[3]; array az[2]; xz := -x + a[x] * 2;"} {
		p := mustText(t, text)
		for i, n := range p.Nodes {
			for _, other := range otherNodes(n) {
				q := copied(p)
				q.Nodes[i] = other
				made, err := Program(q.Nodes)
				want := err == nil && reflect.DeepEqual(emptied(made), emptied(q))
				if Good(q) != want {
					t.Errorf("P4.3: %q with the node %d %v: Good is %t", text, i, other, !want)
				}
				if want {
					taken++
				} else {
					refused++
				}
			}
		}
	}
	if taken < 10 || refused < 10 {
		t.Errorf("%d were Good, %d weren't", taken, refused)
	}
	// A number or an operator of the same sort is in no other list.
	p := mustText(t, "var x; x := x + 1;")
	p.Nodes[4].Num, p.Nodes[2].Op = 7, api.OpMul
	if !Good(p) {
		t.Error("P4.3: with another number and operator it isn't Good")
	}
	// A division is a site.
	p.Nodes[2].Op = api.OpDiv
	if Good(p) {
		t.Error("P4.3: with a site that no list has it is Good")
	}
}

// P4.3: Progs that are none, and no lists at all.
func TestGoodOfOtherThings(t *testing.T) {
	if !Good(api.Prog{}) || !Good(api.Prog{Nodes: []api.Node{}, Scalars: []string{}, Arrays: []api.Array{}, Symbols: []int{}, Sites: []int{}, SiteOf: []int{}}) {
		t.Error("P4.3: the empty program isn't Good")
	}
	x := api.Node{Depth: 1, Kind: api.KVar, Name: "x"}
	for _, p := range []api.Prog{
		{Scalars: []string{"x"}},
		{Arrays: []api.Array{{Name: "a", Len: 1}}},
		{Symbols: []int{-1}},
		{Sites: []int{0}},
		{SiteOf: []int{-1}},
		{Nodes: []api.Node{x}},
		{Nodes: []api.Node{x, x}, Scalars: []string{"x", "x"}, Symbols: []int{0, 1}, SiteOf: []int{-1, -1}},
		{Nodes: []api.Node{x, x}, Scalars: []string{"x"}, Symbols: []int{0, 0}, SiteOf: []int{-1, -1}},
		{Nodes: make([]api.Node, 1), Symbols: []int{-1}, SiteOf: []int{-1}},
		{Nodes: make([]api.Node, 1000), Symbols: make([]int, 1000), SiteOf: make([]int, 1000)},
	} {
		if Good(p) {
			t.Errorf("P4.3: %v is Good", p)
		}
	}
	if !Good(api.Prog{Nodes: []api.Node{x}, Scalars: []string{"x"}, Symbols: []int{0}, SiteOf: []int{-1}}) {
		t.Error("P4.3: a program that was written out isn't Good")
	}
}

// P4.3: Same goes by all fields but At, in both directions.
func TestSame(t *testing.T) {
	same := func(p, q api.Prog, want bool) {
		t.Helper()
		if Same(p, q) != want || Same(q, p) != want {
			t.Fatalf("P4.3: Same(%v, %v) isn't %t", p, q, want)
		}
	}
	odd := api.Prog{
		Nodes:   []api.Node{{Depth: -1, Kind: 99, Name: "\xff", Num: -5, Op: -7, At: 3}, {}},
		Scalars: []string{" ", "\x00"}, Arrays: []api.Array{{Name: "\x00", Len: -1}, {Name: "?", Len: 99}}, Symbols: []int{5}, Sites: []int{-9, 9}, SiteOf: []int{1, 2, 3},
	}
	many := api.Prog{Nodes: make([]api.Node, 1000), Sites: make([]int, 1000)}
	for _, p := range []api.Prog{{}, mustText(t, example), mustText(t, everyKind), odd, many} {
		same(p, p, true)
		same(p, copied(p), true)
		same(p, emptied(p), true)
		for i := range p.Nodes {
			q := copied(p)
			q.Nodes[i].At -= 1000
			same(p, q, true)
		}
		if len(p.Nodes) > 100 {
			continue
		}
		for _, q := range changedLists(p) {
			same(p, q, false)
		}
		for i, n := range p.Nodes {
			for _, other := range otherNodes(n) {
				q := copied(p)
				q.Nodes[i] = other
				same(p, q, other.Depth == n.Depth && other.Kind == n.Kind && other.Name == n.Name && other.Num == n.Num && other.Op == n.Op)
			}
			q := copied(p)
			q.Nodes = slices.Delete(q.Nodes, i, i+1)
			same(p, q, false)
		}
		q := copied(p)
		q.Nodes = append(q.Nodes, api.Node{})
		same(p, q, false)
	}
	p := mustText(t, example)
	same(p, mustText(t, "var x ;array a [ 2 ];a[x]:=1/x;assert x<2; # the same"), true)
	same(p, mustText(t, "var y; array a[2]; a[y] := 1 / y; assert y < 2;"), false)
	same(p, mustText(t, "var x; array a[2]; a[x] := 1 / x; assert x < 3;"), false)
	same(api.Prog{}, api.Prog{Nodes: []api.Node{}, Scalars: []string{}, Arrays: []api.Array{}, Symbols: []int{}, Sites: []int{}, SiteOf: []int{}}, true)
}

// roomy has the same items as list, and room behind them that is filled.
func roomy[T any](list []T, filler T) []T {
	room := make([]T, len(list), len(list)+40)
	copy(room, list)
	all := room[:cap(room)]
	for i := len(list); i < len(all); i++ {
		all[i] = filler
	}
	return room
}

func roomyProg(p api.Prog) api.Prog {
	return api.Prog{
		Nodes: roomy(p.Nodes, api.Node{Depth: 1, Kind: api.KSkip, At: 77}), Scalars: roomy(p.Scalars, "room"), Arrays: roomy(p.Arrays, api.Array{Name: "room", Len: 77}),
		Symbols: roomy(p.Symbols, 77), Sites: roomy(p.Sites, 77), SiteOf: roomy(p.SiteOf, 77),
	}
}

// whole has all lists of p up to the end of their room.
func whole(p api.Prog) api.Prog {
	return api.Prog{
		Nodes: p.Nodes[:cap(p.Nodes)], Scalars: p.Scalars[:cap(p.Scalars)], Arrays: p.Arrays[:cap(p.Arrays)],
		Symbols: p.Symbols[:cap(p.Symbols)], Sites: p.Sites[:cap(p.Sites)], SiteOf: p.SiteOf[:cap(p.SiteOf)],
	}
}

// scrawl overwrites a Prog, the room of its lists too.
func scrawl(p api.Prog) {
	p = whole(p)
	for i := range p.Nodes {
		p.Nodes[i] = api.Node{Name: "scrawl", At: -1}
	}
	for i := range p.Scalars {
		p.Scalars[i] = "scrawl"
	}
	for i := range p.Arrays {
		p.Arrays[i] = api.Array{Name: "scrawl"}
	}
	for _, list := range [][]int{p.Symbols, p.Sites, p.SiteOf} {
		for i := range list {
			list[i] = -99
		}
	}
}

// P4.4: what is handed in stays, with the room behind it.
func TestWhatIsHandedInStays(t *testing.T) {
	for _, text := range []string{"", example, everyKind, "skip; skip;"} {
		p := roomyProg(mustText(t, text))
		before := copied(whole(p))
		stays := func(what string) {
			t.Helper()
			if !reflect.DeepEqual(whole(p), before) {
				t.Fatalf("P4.4: %s of %q has changed what was handed in", what, text)
			}
		}
		answer, err := Program(p.Nodes)
		stays("Program")
		if err != nil || !Same(answer, p) {
			t.Fatalf("P4.1: Program of %q with room behind it: %v", text, err)
		}
		if !Good(p) || !Same(p, p) || !Same(p, answer) {
			t.Fatalf("P4.3: %q with room behind it", text)
		}
		stays("Good or Same")
		scrawl(answer)
		stays("writing in the answer")
		answer, _ = Program(p.Nodes)
		kept := copied(answer)
		scrawl(p)
		if !reflect.DeepEqual(emptied(answer), emptied(kept)) {
			t.Fatalf("P4.4: the answer to %q changes with what was handed in", text)
		}
	}
	for _, refused := range [][]api.Node{{{Depth: 1, Kind: api.KSkip}, {}}, {{Depth: 1, Kind: api.KInput, Name: "x"}}} {
		ns := roomy(refused, api.Node{At: 77})
		before := slices.Clone(ns[:cap(ns)])
		Program(ns)
		Good(api.Prog{Nodes: ns})
		if !slices.Equal(ns[:cap(ns)], before) {
			t.Errorf("P4.4: a refused list has changed: %v", ns)
		}
	}
}

// P4.4: answers are new memory each time, and no two lists of one share any.
func TestAnswersAreNew(t *testing.T) {
	for _, text := range []string{"", example, everyKind, "skip;"} {
		nodes := mustTree(t, text)
		program := func() api.Prog { p, _ := Program(nodes); return p }
		for _, ask := range []func() api.Prog{program, func() api.Prog { return mustText(t, text) }} {
			first, second := ask(), ask()
			kept := copied(second)
			scrawl(first)
			if third := ask(); !Same(second, kept) || !Same(third, kept) {
				t.Errorf("P4.4: an answer to %q changes with an earlier one", text)
			}
			full := whole(second)
			symbols, sites, siteOf := slices.Clone(full.Symbols), slices.Clone(full.Sites), slices.Clone(full.SiteOf)
			for i := range full.Symbols {
				full.Symbols[i] = -98
			}
			if !slices.Equal(full.Sites, sites) || !slices.Equal(full.SiteOf, siteOf) {
				t.Errorf("P4.4: Symbols of %q share memory with another list", text)
			}
			copy(full.Symbols, symbols)
			for i := range full.Sites {
				full.Sites[i] = -98
			}
			if !slices.Equal(full.Symbols, symbols) || !slices.Equal(full.SiteOf, siteOf) {
				t.Errorf("P4.4: Sites of %q share memory with another list", text)
			}
		}
	}
}

// P4.4: a name that is answered isn't a piece of a text that was handed in.
func TestNamesAreNew(t *testing.T) {
	long := "a long text, in which a name stands: x_1"
	name := long[len(long)-3:]
	ns := []api.Node{{Depth: 1, Kind: api.KVar, Name: name}, {Depth: 1, Kind: api.KArray, Name: name[:2], Num: 1}, {Depth: 1, Kind: api.KInput, Name: name}}
	p, err := Program(ns)
	if err != nil {
		t.Fatal(err)
	}
	for _, answered := range []string{p.Nodes[0].Name, p.Nodes[1].Name, p.Nodes[2].Name, p.Scalars[0], p.Arrays[0].Name} {
		if unsafe.StringData(answered) == unsafe.StringData(name) {
			t.Errorf("P4.4: the name %q is the one that was handed in", answered)
		}
	}
}

// P4.4: each Fault is new, and a nil error is nil itself.
func TestFaultsAreNew(t *testing.T) {
	twice := []api.Node{{Depth: 1, Kind: api.KVar, Name: "x"}, {Depth: 1, Kind: api.KVar, Name: "x", At: 9}}
	for _, ask := range []func() error{
		func() error { _, err := Program(twice); return err },
		func() error { _, err := Program(twice[:1]); return err },
		func() error { _, err := Program([]api.Node{{}}); return err },
		func() error { _, err := Text("var x; var x;"); return err },
		func() error { _, err := Text("var x; var;"); return err },
		func() error { _, err := Text("var x;"); return err },
	} {
		first, second := ask(), ask()
		if first == nil || second == nil {
			if first != second {
				t.Errorf("P4.4: %v, then %v", first, second)
			}
			continue
		}
		fault, other := first.(*api.Fault), second.(*api.Fault)
		kept := *other
		if fault == other || *fault != kept {
			t.Errorf("P4.4: the Faults %v and %v", fault, other)
		}
		*fault = api.Fault{Code: 99, At: -99, Of: api.ErrConfig}
		if third := ask().(*api.Fault); *other != kept || *third != kept {
			t.Errorf("P4.4: a Fault changes with an earlier one: %v, %v", other, third)
		}
	}
}
