package part

import (
	"math"
	"slices"
	"testing"

	"winnow/api"
)

// wantVertex holds an answer of Follow.
func wantVertex(t *testing.T, p api.Prog, c api.Config, path []int, want int) {
	t.Helper()
	if got, code := Follow(p, c, path); code != api.OK || got != want {
		t.Errorf("P20.3: Follow(%+v, %v) = %d, %v, want %d", c, path, got, code, want)
	}
}

// wantNoVertex holds a refusal of Follow.
func wantNoVertex(t *testing.T, p api.Prog, c api.Config, path []int, want api.Errno) {
	t.Helper()
	if got, code := Follow(p, c, path); code != want || got != 0 {
		t.Errorf("P20.3: Follow(%+v, %v) = %d, %v, want %v", c, path, got, code, want)
	}
}

// P20.3: paths of the chapter's program; the vertices are those of TestExamplesOfSplit.
func TestFollow(t *testing.T) {
	p := mustText(t, example)
	for _, x := range []struct {
		c    api.Config
		path []int
		want int
	}{
		{api.Config{Cap: 1}, []int{}, 0},
		{api.Config{Cap: 1}, []int{0}, 1},
		{api.Config{Cap: 1}, []int{0, 2, 4, 5, 7, 5, 7, 6}, 6},
		{api.Config{Hist: 1, Cap: 6}, []int{0, 1, 3}, 4},
		{api.Config{Hist: 1, Cap: 6}, []int{0, 2, 4}, 5},
		{api.Config{Hist: 1, Cap: 6}, []int{0, 1, 3, 5, 7, 6}, 7},
		{api.Config{Hist: 1, Cap: 6}, []int{0, 2, 4, 5, 7, 6}, 9},
		{api.Config{Unroll: 2, Cap: 6}, []int{0, 1, 3, 5, 7}, 7},
		{api.Config{Unroll: 2, Cap: 6}, []int{0, 1, 3, 5, 7, 5, 7}, 9},
		{api.Config{Unroll: 2, Cap: 6}, []int{0, 1, 3, 5, 7, 5, 7, 5, 7, 5, 7, 5}, 8},
		{api.Config{Unroll: 2, Cap: 6}, []int{0, 1, 3, 5, 7, 5, 7, 6}, 6},
		{api.Config{Hist: 1, Unroll: 2, Cap: 3}, []int{0, 1, 3, 5, 7, 6}, 6},
		{api.Config{Hist: 1, Unroll: 2, Cap: 3}, []int{0, 2}, 3},
	} {
		wantVertex(t, p, x.c, x.path, x.want)
	}
}

// paths are all paths from node 0 that have at most so many edges.
func paths(g api.Graph, most int) [][]int {
	var list [][]int
	var grow func(path []int, node int)
	grow = func(path []int, node int) {
		list = append(list, slices.Clone(path))
		if len(path) == most {
			return
		}
		for number, e := range g.Edges {
			if e.From == node {
				grow(append(path, number), e.To)
			}
		}
	}
	grow(nil, 0)
	return list
}

// wantPath holds that a path leads to the vertex of its last node and of the token that Step tells edge by edge, where no merged node was on the way.
func wantPath(t *testing.T, p api.Prog, c api.Config, x api.Part, path []int) int {
	t.Helper()
	g := mustGraph(t, p)
	node, token, byMerged := 0, api.Token{}, slices.Contains(x.Merged, 0)
	for _, edge := range path {
		var code api.Errno
		if token, code = Step(p, c, token, edge); code != api.OK {
			t.Fatalf("P20.2: Step along %v = %v", path, code)
		}
		node = g.Edges[edge].To
		byMerged = byMerged || slices.Contains(x.Merged, node)
	}
	if byMerged {
		token = merged()
	}
	vertex, code := Follow(p, c, path)
	if code != api.OK || vertex < 0 || vertex >= len(x.Verts) {
		t.Fatalf("P20.3: Follow(%+v, %v) = %d, %v", c, path, vertex, code)
	}
	if v := x.Verts[vertex]; v.Node != node || !alike(v.Token, token) {
		t.Fatalf("P20.4: Follow(%+v, %v) = %d, which is %d %s, want %d %s", c, path, vertex, v.Node, tell(v.Token), node, tell(token))
	}
	return vertex
}

// P20.3, P20.4: each path up to some length.
func TestEachPath(t *testing.T) {
	for _, x := range []struct {
		text string
		most int
	}{
		{"skip;", 3},
		{example, 11},
		{"var x; while x < 1 { while x < 2 { if x < 0 { } } }", 8},
		{"var x; if x < 1 { while x < 2 { } } else { skip; } if x < 3 { skip; }", 9},
		{everything, 13},
	} {
		p := mustText(t, x.text)
		list := paths(mustGraph(t, p), x.most)
		for _, c := range corners() {
			parted := mustSplit(t, p, c)
			reached := map[int]int{}
			for _, path := range list {
				reached[wantPath(t, p, c, parted, path)]++
			}
			if len(reached) < min(len(parted.Verts), 5) {
				t.Errorf("only %d vertices were reached", len(reached))
			}
		}
	}
}

// P20.3: a path that is spoilt at one of its places.
func TestNoPath(t *testing.T) {
	p := mustText(t, example)
	g := mustGraph(t, p)
	c := api.Config{Hist: 1, Unroll: 1, Cap: 4}
	right := []int{0, 2, 4, 5, 7, 5, 7, 6}
	wantVertex(t, p, c, right, mustFollow(t, p, c, right))
	for place := range right {
		for _, edge := range []int{-1, len(g.Edges), len(g.Edges) + 1, math.MinInt, math.MaxInt, -math.MaxInt, 1 << 32} {
			path := slices.Clone(right)
			path[place] = edge
			wantNoVertex(t, p, c, path, api.ErrArg)
			wantNoVertex(t, p, c, path[:place+1], api.ErrArg)
		}
		for edge, e := range g.Edges {
			path := slices.Clone(right)
			path[place] = edge
			if e.From != g.Edges[right[place]].From {
				wantNoVertex(t, p, c, path, api.ErrArg)
				wantNoVertex(t, p, c, path[:place+1], api.ErrArg)
			}
		}
		if place > 0 {
			wantNoVertex(t, p, c, right[place:], api.ErrArg)
			wantNoVertex(t, p, c, slices.Concat(right[:place], right[:1]), api.ErrArg)
		}
	}
	for _, edge := range []int{0, 1, 6} {
		wantNoVertex(t, p, c, slices.Concat(right, []int{edge}), api.ErrArg)
	}
}

func mustFollow(t *testing.T, p api.Prog, c api.Config, path []int) int {
	t.Helper()
	vertex, code := Follow(p, c, path)
	if code != api.OK {
		t.Fatalf("P20.3: Follow(%+v, %v) = %v", c, path, code)
	}
	return vertex
}

// P20.3: all lists of edges of a small program up to some length: those that are paths, and no others, are taken.
func TestEachList(t *testing.T) {
	p := mustText(t, "var x; if x < 1 { while x < 2 { } }")
	g := mustGraph(t, p)
	c := api.Config{Hist: 1, Unroll: 2, Cap: 3}
	list := paths(g, 4)
	taken := 0
	var grow func(path []int)
	grow = func(path []int) {
		is := slices.ContainsFunc(list, func(other []int) bool { return slices.Equal(path, other) })
		if _, code := Follow(p, c, path); (code == api.OK) != is || !is && code != api.ErrArg {
			t.Errorf("P20.3: Follow(%v) = %v; a path: %v", path, code, is)
		}
		if is {
			taken++
		}
		for edge := -1; edge <= len(g.Edges) && len(path) < 4; edge++ {
			grow(append(slices.Clone(path), edge))
		}
	}
	grow(nil)
	if taken != len(list) {
		t.Errorf("P20.3: %d paths are taken, want %d", taken, len(list))
	}
}

// P20.3: a long path.
func TestLongPath(t *testing.T) {
	p := mustText(t, example)
	path := []int{0, 1, 3}
	for range 200000 {
		path = append(path, 5, 7)
	}
	wantVertex(t, p, api.Config{Unroll: 2, Cap: 6}, path, 9)
	wantVertex(t, p, api.Config{Unroll: 2, Cap: 6}, append(path, 6), 6)
	wantNoVertex(t, p, api.Config{Unroll: 2, Cap: 6}, append(path, 7), api.ErrArg)
}
