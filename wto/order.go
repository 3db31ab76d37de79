package wto

import (
	"slices"

	"winnow/api"
)

// order is the order of what is reached from the vertex of the number 0. A Visit that waits for another one waits in a list of calls: a row of arcs may be longer than Go's own calls can be deep.
func order(g graph) []api.Elem {
	var calls []call
	var stack []int
	// The list's front is its end until all is there, and depth tells how many components are on their way.
	var list []api.Elem
	depth := 0
	marks := make(marking, len(g.vertices))
	count := 0

	put := func(v int, head bool) {
		list = append(list, api.Elem{Vertex: g.vertices[v], Depth: depth, Head: head})
	}
	visit := func(v int) {
		count++
		marks[v] = count
		stack = append(stack, v)
		calls = append(calls, call{vertex: v, arc: g.begin[v], least: count})
	}
	component := func(c *call) {
		depth++
		c.arc, c.second = g.begin[c.vertex], true
	}
	through := func(c *call) {
		switch {
		case c.second:
			put(c.vertex, true)
			depth--
		case c.least == marks[c.vertex]:
			stack = marks.takeOff(stack, c.vertex)
			if c.loop {
				component(c)
				return
			}
			put(c.vertex, false)
		}
		calls = answered(calls)
	}

	visit(0)
	for len(calls) > 0 {
		c := &calls[len(calls)-1]
		if c.arc == g.begin[c.vertex+1] {
			through(c)
			continue
		}
		to := g.ends[c.arc]
		c.arc++
		if marks[to] == fresh {
			visit(to)
		} else {
			c.hear(marks[to])
		}
	}
	slices.Reverse(list)
	return list
}
