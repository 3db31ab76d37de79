package part

import (
	"slices"
	"testing"

	"winnow/api"
)

// alike tells whether two tokens are the same: nil and empty lists are.
func alike(a, b api.Token) bool {
	return a.Merged == b.Merged && slices.Equal(a.Hist, b.Hist) && slices.Equal(a.Loops, b.Loops)
}

// behind is the token behind an edge, no node being merged, by the chapter's words.
func behind(e api.Edge, number int, c api.Config, t api.Token) api.Token {
	if t.Merged {
		return api.Token{Merged: true}
	}
	ofIf := e.Op == api.EAssume && !e.Loop
	ofWhile := e.Op == api.EAssume && e.Loop
	last := len(t.Loops) - 1
	lastIsFrom := last >= 0 && t.Loops[last].Head == e.From
	answer := api.Token{Hist: slices.Clone(t.Hist), Loops: slices.Clone(t.Loops)}
	if ofIf && len(t.Hist) < c.Hist {
		answer.Hist = append(answer.Hist, number)
	}
	if ofWhile && e.Sense && c.Unroll > 0 {
		if !lastIsFrom {
			answer.Loops = append(answer.Loops, api.Loop{Head: e.From, Count: 1})
		} else if t.Loops[last].Count >= c.Unroll {
			answer.Loops[last].Count = c.Unroll
		} else {
			answer.Loops[last].Count++
		}
	}
	if ofWhile && !e.Sense && lastIsFrom {
		answer.Loops = answer.Loops[:last]
	}
	return answer
}

// words makes parts by the chapter's words: tokens are held against each other one by one.
type words struct {
	c      api.Config
	graph  api.Graph
	merged []int
	verts  []api.Vertex
	links  []api.Link
}

func newWords(t testing.TB, p api.Prog, c api.Config) *words {
	t.Helper()
	return &words{c: c, graph: mustGraph(t, p)}
}

// there is the token that comes to a node.
func (w *words) there(node int, t api.Token) api.Token {
	if slices.Contains(w.merged, node) {
		return api.Token{Merged: true}
	}
	return t
}

// place is the number of a vertex; -1: it wasn't found yet.
func (w *words) place(node int, t api.Token) int {
	return slices.IndexFunc(w.verts, func(v api.Vertex) bool { return v.Node == node && alike(v.Token, t) })
}

// of is how many vertices a node has.
func (w *words) of(node int) int {
	number := 0
	for _, v := range w.verts {
		if v.Node == node {
			number++
		}
	}
	return number
}

// find makes a finding, and tells the node that breaks it off; -1: none does.
func (w *words) find() int {
	w.verts = []api.Vertex{{Node: 0, Token: w.there(0, api.Token{})}}
	w.links = nil
	for from := 0; from < len(w.verts); from++ {
		v := w.verts[from]
		for number, e := range w.graph.Edges {
			if e.From != v.Node {
				continue
			}
			token := w.there(e.To, behind(e, number, w.c, v.Token))
			to := w.place(e.To, token)
			if to < 0 {
				if w.of(e.To)+1 > w.c.Cap {
					return e.To
				}
				to = len(w.verts)
				w.verts = append(w.verts, api.Vertex{Node: e.To, Token: token})
			}
			w.links = append(w.links, api.Link{From: from, To: to, Edge: number})
		}
	}
	return -1
}

// make makes findings until one isn't broken off, and tells the nodes that break the others off.
func (w *words) make(broken func(node int)) {
	for node := w.find(); node >= 0; node = w.find() {
		broken(node)
		w.merged = append(w.merged, node)
	}
	slices.Sort(w.merged)
}

// wantWords holds a part against the chapter's words, and tells how many findings were broken off.
func wantWords(t *testing.T, p api.Prog, c api.Config) (api.Part, int) {
	t.Helper()
	w := newWords(t, p, c)
	broken := 0
	w.make(func(int) { broken++ })
	x := mustSplit(t, p, c)
	if got, want := tellVerts(x.Verts), tellVerts(w.verts); got != want {
		t.Fatalf("P20.1: Split with %+v has the vertices\n%s, want\n%s", c, got, want)
	}
	if !slices.EqualFunc(x.Verts, w.verts, func(a, b api.Vertex) bool { return a.Node == b.Node && alike(a.Token, b.Token) }) {
		t.Fatalf("P20.1: Split with %+v has the vertices\n%v, want\n%v", c, x.Verts, w.verts)
	}
	if !slices.Equal(x.Links, w.links) {
		t.Fatalf("P20.1: Split with %+v has the links\n%v, want\n%v", c, x.Links, w.links)
	}
	if !slices.Equal(x.Merged, w.merged) {
		t.Fatalf("P20.1: Split with %+v has merged %v, want %v", c, x.Merged, w.merged)
	}
	return x, broken
}

// wantWhole holds what follows of every part: P20.4, but for paths.
func wantWhole(t *testing.T, p api.Prog, c api.Config, x api.Part) {
	t.Helper()
	g := mustGraph(t, p)
	if len(x.Verts) > g.Nodes*c.Cap {
		t.Fatalf("P20.4: there are %d vertices for %d nodes with Cap %d", len(x.Verts), g.Nodes, c.Cap)
	}
	for i := 1; i < len(x.Merged); i++ {
		if x.Merged[i-1] >= x.Merged[i] {
			t.Fatalf("P20.1: Merged isn't rising: %v", x.Merged)
		}
	}
	tokens := make([][]api.Token, g.Nodes)
	for _, v := range x.Verts {
		for _, other := range tokens[v.Node] {
			if alike(other, v.Token) {
				t.Fatalf("P20.4: the node %d has two tokens %s", v.Node, tell(v.Token))
			}
		}
		tokens[v.Node] = append(tokens[v.Node], v.Token)
		if v.Token.Merged && len(v.Token.Hist)+len(v.Token.Loops) > 0 {
			t.Fatalf("P20.1: a Merged token has lists: %+v", v.Token)
		}
	}
	for node, list := range tokens {
		if len(list) == 0 || len(list) > c.Cap {
			t.Fatalf("P20.4: the node %d has %d vertices with Cap %d", node, len(list), c.Cap)
		}
		if slices.Contains(x.Merged, node) && (len(list) != 1 || !alike(list[0], merged())) {
			t.Fatalf("P20.4: the merged node %d has %v", node, list)
		}
	}
	wantLinks(t, g, x)
}

// wantLinks holds that there is a link for each edge out of a vertex' node, and that vertices are numbered as links come to them.
func wantLinks(t *testing.T, g api.Graph, x api.Part) {
	t.Helper()
	next, found := 0, 1
	for from, v := range x.Verts {
		for number, e := range g.Edges {
			if e.From != v.Node {
				continue
			}
			if next == len(x.Links) || x.Links[next].From != from || x.Links[next].Edge != number {
				t.Fatalf("P20.4: the vertex %d has no link %d for the edge %d: %v", from, next, number, x.Links)
			}
			to := x.Links[next].To
			if to < 0 || to > found || to >= len(x.Verts) || x.Verts[to].Node != e.To {
				t.Fatalf("P20.4: the link %d leads to %d: %v", next, to, x.Links)
			}
			found = max(found, to+1)
			next++
		}
	}
	if next != len(x.Links) || found != len(x.Verts) {
		t.Fatalf("P20.4: there are %d links and %d vertices, want %d and %d", len(x.Links), len(x.Verts), next, found)
	}
}
