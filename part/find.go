package part

import "winnow/api"

// overfull is the node that would get one token too many: a finding is broken off by it.
type overfull int

// plan is what all findings of one part go by.
type plan struct {
	graph api.Graph
	most  int     // tokens at a node
	steps []step  // by edge
	outs  [][]int // of each node: the edges out of it, rising
	merge []bool  // of each node: whether it is merged
}

// split makes findings until one isn't broken off. There are at most as many as nodes, and one more: a node that is merged has one token alone.
func split(graph api.Graph, c api.Config) api.Part {
	p := newPlan(graph, c)
	for {
		parted, node := p.attempt()
		if node < 0 {
			parted.Merged = p.merged()
			return parted
		}
		p.merge[node] = true
	}
}

func newPlan(graph api.Graph, c api.Config) plan {
	p := plan{graph: graph, most: c.Cap, outs: make([][]int, graph.Nodes), merge: make([]bool, graph.Nodes)}
	for i, e := range graph.Edges {
		p.steps = append(p.steps, stepOf(e, i, c))
		p.outs[e.From] = append(p.outs[e.From], i)
	}
	return p
}

// merged are the nodes that are, rising.
func (p plan) merged() []int {
	var nodes []int
	for node, is := range p.merge {
		if is {
			nodes = append(nodes, node)
		}
	}
	return nodes
}

// attempt makes a finding, or tells the node that broke it off (-1: none did).
func (p plan) attempt() (parted api.Part, broken int) {
	defer func() {
		if thrown := recover(); thrown != nil {
			node, ok := thrown.(overfull)
			if !ok {
				panic(thrown) // a mistake of this package isn't hidden
			}
			parted, broken = api.Part{}, int(node)
		}
	}()
	return p.find(), -1
}

// find goes through the vertices in the order in which they are found.
func (p plan) find() api.Part {
	f := finding{plan: p, numbers: map[string]int{}, tokens: make([]int, p.graph.Nodes)}
	f.vertex(0, api.Token{})
	for from := 0; from < len(f.verts); from++ {
		at := f.verts[from]
		for _, edge := range p.outs[at.Node] {
			to := f.vertex(p.graph.Edges[edge].To, p.steps[edge](at.Token))
			f.links = append(f.links, api.Link{From: from, To: to, Edge: edge})
		}
	}
	return api.Part{Verts: f.verts, Links: f.links}
}

// finding is what was found so far.
type finding struct {
	plan
	verts   []api.Vertex
	links   []api.Link
	numbers map[string]int // of each vertex, by its text
	tokens  []int          // of each node: how many it has
}

// vertex is the number of a node with the token that comes there; it is found by this, if it wasn't yet.
func (f *finding) vertex(node int, t api.Token) int {
	if f.merge[node] {
		t = api.Token{Merged: true}
	}
	text := textOf(node, t)
	if number, known := f.numbers[text]; known {
		return number
	}
	if f.tokens[node] == f.most {
		panic(overfull(node))
	}
	f.tokens[node]++
	f.numbers[text] = len(f.verts)
	f.verts = append(f.verts, api.Vertex{Node: node, Token: t})
	return f.numbers[text]
}
