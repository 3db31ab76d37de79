package part

import (
	"reflect"
	"slices"
	"sync"
	"testing"

	"winnow/api"
)

const mark = -987654321

// roomy is a list with marked room behind it.
func roomy[T any](list []T, marked T) []T {
	long := append(slices.Clone(list), marked, marked, marked)
	return long[:len(list)]
}

// whole is a list with the room behind it.
func whole[T any](list []T) []T { return slices.Clone(list[:cap(list)]) }

func roomyProg(p api.Prog) api.Prog {
	return api.Prog{
		Nodes: roomy(p.Nodes, api.Node{Depth: mark}), Scalars: roomy(p.Scalars, "mark"), Arrays: roomy(p.Arrays, api.Array{Len: mark}),
		Symbols: roomy(p.Symbols, mark), Sites: roomy(p.Sites, mark), SiteOf: roomy(p.SiteOf, mark),
	}
}

func wholeProg(p api.Prog) api.Prog {
	return api.Prog{
		Nodes: whole(p.Nodes), Scalars: whole(p.Scalars), Arrays: whole(p.Arrays),
		Symbols: whole(p.Symbols), Sites: whole(p.Sites), SiteOf: whole(p.SiteOf),
	}
}

func roomyConfig(c api.Config) api.Config {
	c.Thresholds = roomy(c.Thresholds, mark)
	return c
}

func wholeConfig(c api.Config) api.Config {
	c.Thresholds = whole(c.Thresholds)
	return c
}

func roomyToken(t api.Token) api.Token {
	return api.Token{Merged: t.Merged, Hist: roomy(t.Hist, mark), Loops: roomy(t.Loops, api.Loop{Head: mark, Count: mark})}
}

func wholeToken(t api.Token) api.Token {
	return api.Token{Merged: t.Merged, Hist: whole(t.Hist), Loops: whole(t.Loops)}
}

// manyConfigs are right and wrong ones.
func manyConfigs() []api.Config {
	list := append(corners(), api.Config{Hist: 2, Unroll: 1, Cap: 2, Thresholds: []int64{-3, 4}})
	for _, w := range wrongs() {
		list = append(list, w.c)
	}
	return list
}

func manyProgs(t *testing.T) []api.Prog {
	spoilt := mustText(t, everything)
	spoilt.SiteOf[0] = 3
	return []api.Prog{{}, mustText(t, "skip;"), mustText(t, example), mustText(t, everything), spoilt, {Scalars: []string{"x"}}}
}

// P20.5: Progs and configurations that are handed in stay, with the room behind their lists, whatever the answer.
func TestProgsAndConfigsStay(t *testing.T) {
	for _, prog := range manyProgs(t) {
		for _, config := range manyConfigs() {
			p, c := roomyProg(prog), roomyConfig(config)
			keptProg, keptConfig := wholeProg(p), wholeConfig(c)
			Split(p, c)
			Step(p, c, hist(1), 0)
			Follow(p, c, []int{0})
			if !reflect.DeepEqual(keptProg, wholeProg(p)) || !reflect.DeepEqual(keptConfig, wholeConfig(c)) {
				t.Fatalf("P20.5: what was handed in has changed: %v, %+v", p, c)
			}
		}
	}
}

// P20.5: tokens that are handed in to Step stay, and what is answered shares nothing with them, their room neither.
func TestTokensStay(t *testing.T) {
	p := mustText(t, everything)
	g := mustGraph(t, p)
	heads := []int{}
	for _, e := range g.Edges {
		if e.Loop && e.Sense {
			heads = append(heads, e.From)
		}
	}
	for _, c := range []api.Config{{Cap: 1}, {Hist: 3, Unroll: 3, Cap: 6}, {Hist: 2, Unroll: 1, Cap: 2}, {}} {
		for edge := -1; edge <= len(g.Edges); edge++ {
			for _, token := range manyTokens(heads...) {
				token = roomyToken(token)
				kept := wholeToken(token)
				first, code := Step(p, c, token, edge)
				told := wholeToken(api.Token{Merged: first.Merged, Hist: first.Hist[:len(first.Hist):len(first.Hist)], Loops: first.Loops[:len(first.Loops):len(first.Loops)]})
				overwriteToken(first)
				if !reflect.DeepEqual(kept, wholeToken(token)) {
					t.Fatalf("P20.5: the token that was handed in has changed: %+v, want %+v", wholeToken(token), kept)
				}
				if again, laterCode := Step(p, c, token, edge); laterCode != code || !alike(again, told) {
					t.Fatalf("P20.5: Step is another one later: %+v, %v, want %+v, %v", again, laterCode, told, code)
				}
				later, _ := Step(p, c, token, edge)
				overwriteToken(token)
				if !alike(later, told) {
					t.Fatalf("P20.5: who writes over the token that was handed in changes the answer: %+v, want %+v", later, told)
				}
			}
		}
	}
}

// P20.5: paths that are handed in stay.
func TestPathsStay(t *testing.T) {
	p := mustText(t, example)
	for _, c := range manyConfigs() {
		for _, list := range [][]int{nil, {}, {0}, {0, 1, 3, 5, 7, 6}, {0, 1, 4}, {9}, {-1, 0}} {
			path := roomy(list, mark)
			kept := whole(path)
			first, code := Follow(p, c, path)
			again, laterCode := Follow(p, c, path)
			if !slices.Equal(kept, whole(path)) {
				t.Fatalf("P20.5: the path that was handed in has changed: %v, want %v", whole(path), kept)
			}
			if first != again || code != laterCode {
				t.Fatalf("P20.5: Follow(%v) = %d, %v, and later %d, %v", list, first, code, again, laterCode)
			}
		}
	}
}

func overwriteToken(t api.Token) {
	t.Hist, t.Loops = t.Hist[:cap(t.Hist)], t.Loops[:cap(t.Loops)]
	for i := range t.Hist {
		t.Hist[i] = mark
	}
	for i := range t.Loops {
		t.Loops[i] = api.Loop{Head: mark, Count: mark}
	}
}

func overwritePart(x api.Part) {
	for _, v := range x.Verts {
		overwriteToken(v.Token)
	}
	x.Verts, x.Links, x.Merged = x.Verts[:cap(x.Verts)], x.Links[:cap(x.Links)], x.Merged[:cap(x.Merged)]
	for i := range x.Verts {
		x.Verts[i] = api.Vertex{Node: mark, Token: api.Token{Merged: true, Hist: []int{mark}}}
	}
	for i := range x.Links {
		x.Links[i] = api.Link{From: mark, To: mark, Edge: mark}
	}
	for i := range x.Merged {
		x.Merged[i] = mark
	}
}

func overwriteProg(p api.Prog) {
	for i := range p.Nodes {
		p.Nodes[i] = api.Node{}
	}
	for _, list := range [][]int{p.Symbols, p.Sites, p.SiteOf} {
		for i := range list {
			list[i] = mark
		}
	}
}

// tellPart is all of a part as a text.
func tellPart(x api.Part) string {
	text := tellVerts(x.Verts) + "; " + tellLinks(x.Links) + "; "
	for _, node := range x.Merged {
		text += tell(hist(node))
	}
	return text
}

// P20.5: answers are the same when they are asked for again behind a writing over of the first ones, and keep nothing of the Prog.
func TestPartsAreNew(t *testing.T) {
	for _, text := range []string{"", "skip;", example, everything} {
		for _, c := range corners() {
			p := mustText(t, text)
			first, second := mustSplit(t, p, c), mustSplit(t, p, c)
			want := tellPart(first)
			overwritePart(first)
			if got := tellPart(second); got != want {
				t.Fatalf("P20.5: who writes over a part has changed another one: %s, want %s", got, want)
			}
			third := mustSplit(t, p, c)
			overwriteProg(p)
			if got := tellPart(third); got != want {
				t.Fatalf("P20.5: a part is another one later: %s, want %s", got, want)
			}
		}
	}
}

// growEach grows each list of a part, and checks in between.
func growEach(x api.Part, check func()) {
	for _, v := range x.Verts {
		_ = append(v.Token.Hist, mark, mark, mark)
		_ = append(v.Token.Loops, api.Loop{Head: mark, Count: mark})
		check()
	}
	_ = append(x.Merged, mark)
	_ = append(x.Links, api.Link{From: mark})
	_ = append(x.Verts, api.Vertex{Node: mark, Token: merged()})
	check()
}

// P20.5: who grows one list of an answer changes no other one.
func TestListsGrow(t *testing.T) {
	for _, text := range []string{example, everything} {
		for _, c := range corners() {
			x := mustSplit(t, mustText(t, text), c)
			want := tellPart(x)
			growEach(x, func() {
				if got := tellPart(x); got != want {
					t.Fatalf("P20.5: who grows a list changes another one: %s, want %s", got, want)
				}
			})
			for i := range x.Verts {
				// Each vertex' lists are written over alone: the others' stay.
				others := append(slices.Clone(x.Verts[:i]), x.Verts[i+1:]...)
				kept := tellVerts(others) + tellLinks(x.Links)
				overwriteToken(x.Verts[i].Token)
				if got := tellVerts(others) + tellLinks(x.Links); got != kept {
					t.Fatalf("P20.5: who writes over a vertex' lists changes another one's: %s, want %s", got, kept)
				}
			}
		}
	}
}

// addresses are where all numbers of a part's lists stand, with those in the room behind them.
func addresses(x api.Part) []*int {
	var list []*int
	add := func(t api.Token) {
		hist, loops := t.Hist[:cap(t.Hist)], t.Loops[:cap(t.Loops)]
		for i := range hist {
			list = append(list, &hist[i])
		}
		for i := range loops {
			list = append(list, &loops[i].Head)
		}
	}
	verts, links, nodes := x.Verts[:cap(x.Verts)], x.Links[:cap(x.Links)], x.Merged[:cap(x.Merged)]
	for i := range verts {
		list = append(list, &verts[i].Node)
		add(verts[i].Token)
	}
	for i := range links {
		list = append(list, &links[i].From)
	}
	for i := range nodes {
		list = append(list, &nodes[i])
	}
	return list
}

// P20.5: no two lists of one answer, and no lists of two answers, share memory: no number of one stands where another's does.
func TestNothingIsShared(t *testing.T) {
	for _, text := range []string{"", "skip;", example, everything} {
		p := mustText(t, text)
		seen := map[*int]int{}
		asked := 0
		var kept []api.Part // so that no memory is given out twice
		add := func(x api.Part) {
			kept = append(kept, x)
			asked++
			for _, at := range addresses(x) {
				if seen[at] > 0 {
					t.Fatalf("P20.5: the answers %d and %d share memory", seen[at], asked)
				}
				seen[at] = asked
			}
		}
		for _, c := range corners() {
			x := mustSplit(t, p, c)
			add(x)
			add(mustSplit(t, p, c))
			for _, v := range x.Verts {
				for edge := range mustGraph(t, p).Edges {
					after, _ := Step(p, c, v.Token, edge)
					add(api.Part{Verts: []api.Vertex{{Token: after}}})
				}
			}
		}
		if len(kept) < 20 {
			t.Errorf("only %d answers", len(kept))
		}
	}
}

// Calls at the same time have nothing to do with one another.
func TestCallsAtTheSameTime(t *testing.T) {
	p, c := mustText(t, everything), api.Config{Hist: 1, Unroll: 2, Cap: 4}
	want := tellPart(mustSplit(t, p, c))
	path := []int{0, 1, 2, 3, 4}
	vertex := mustFollow(t, p, c, path)
	var group sync.WaitGroup
	for range 8 {
		group.Go(func() {
			for range 50 {
				if x, code := Split(p, c); code != api.OK || tellPart(x) != want {
					t.Errorf("P20.1: Split is another one: %v", code)
				}
				wantStep(t, p, c, hist(1, 2), 0, hist(1, 2))
				wantVertex(t, p, c, path, vertex)
			}
		})
	}
	group.Wait()
}
