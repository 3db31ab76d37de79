package wto

import "winnow/api"

// graph holds the root and the vertices of arcs alone, with numbers of their own: any other vertex isn't reached, and there may be too many of them to make room for each.
type graph struct {
	// vertices has each number's vertex; the root's number is 0.
	vertices []int
	// ends has where the arcs lead, those from one vertex beside one another, in their order.
	ends []int
	// begin has where a number's arcs begin in ends, and behind the last number where all of them end.
	begin []int
}

// numbered is the graph of some arcs and a root.
func numbered(arcs []api.Arc, root int) graph {
	var g graph
	numbers := map[int]int{}
	number := func(v int) int {
		i, known := numbers[v]
		if !known {
			i = len(g.vertices)
			numbers[v] = i
			g.vertices = append(g.vertices, v)
		}
		return i
	}
	number(root)
	own := make([]api.Arc, len(arcs))
	for i, a := range arcs {
		own[i] = api.Arc{From: number(a.From), To: number(a.To)}
	}
	g.begin = begins(own, len(g.vertices))
	g.ends = make([]int, len(own))
	filled := make([]int, len(g.vertices))
	for _, a := range own {
		g.ends[g.begin[a.From]+filled[a.From]] = a.To
		filled[a.From]++
	}
	return g
}

// begins tells of each of n numbers how many arcs come from lesser ones, and at last how many there are.
func begins(arcs []api.Arc, n int) []int {
	begin := make([]int, n+1)
	for _, a := range arcs {
		begin[a.From+1]++
	}
	for i := range n {
		begin[i+1] += begin[i]
	}
	return begin
}
