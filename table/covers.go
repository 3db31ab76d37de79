package table

import (
	"winnow/api"
	"winnow/env"
	"winnow/part"
	"winnow/walk"
)

// Covers tells whether each state of a run is in the table at its vertex; with false the number of the first that isn't.
func Covers(p api.Prog, c api.Config, t api.Table, tape []int64) (bool, int, api.Errno) {
	parted, code := part.Split(p, c)
	switch {
	case code != api.OK:
		return false, 0, code
	case !fits(p, parted, t):
		return false, 0, api.ErrPut
	}
	// The configuration is right, so that its fuel is one, and the walk can't refuse it.
	edges, _ := walk.Path(p, tape, c.Fuel)
	vertices := along(parted.Links, edges)
	covered := 0
	walk.Stops(p, tape, c.Fuel)(func(_ int, s api.Store) bool {
		if !env.Has(t[vertices[covered]], s) {
			return false
		}
		covered++
		return true
	})
	if covered < len(vertices) {
		return false, covered, api.OK
	}
	return true, 0, api.OK
}

// turn is an edge that is gone from a vertex.
type turn struct{ vertex, edge int }

// along are the vertices of a run's states: the entry, and that behind each edge that was gone. The walk tells nodes alone, and two edges to one node may lead to two of its vertices.
func along(links []api.Link, edges []int) []int {
	next := make(map[turn]int, len(links))
	for _, l := range links {
		next[turn{l.From, l.Edge}] = l.To
	}
	vertices := []int{0}
	for i, edge := range edges {
		vertices = append(vertices, next[turn{vertices[i], edge}])
	}
	return vertices
}
