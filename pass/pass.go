// Package pass holds what the forward pass (layer 22) and the backward one (layer 23) have in common: the order, the sweeps and the narrowing. What tells the two apart is the flow that they hand in.
package pass

import (
	"slices"

	"winnow/api"
	"winnow/env"
	"winnow/table"
	"winnow/wto"
)

// Flow tells what comes to a vertex by a table: chapter 22's x(v), chapter 23's z(v).
type Flow func(t api.Table, v int) api.Env

// Order is a part's vertices in the order in which the forward sweeps go; all of them stand in it.
func Order(parted api.Part) []api.Elem {
	var arcs []api.Arc
	for _, l := range parted.Links {
		arcs = append(arcs, api.Arc{From: l.From, To: l.To})
	}
	order, _ := wto.Order(len(parted.Verts), arcs, 0)
	return order
}

// Settled is the table behind the sweeps: from dead Envs on, until a sweep has changed none.
func Settled(order []api.Elem, c api.Config, comes Flow) api.Table {
	t := slices.Repeat(api.Table{{Dead: true}}, len(order))
	changes := make([]int, len(t))
	for sweep(t, order, changes, c, comes) {
	}
	return t
}

// sweep goes through the order once, each vertex by what those ahead of it have become; it tells whether one has changed.
func sweep(t api.Table, order []api.Elem, changes []int, c api.Config, comes Flow) bool {
	changed := false
	for i := range order {
		v := order[i].Vertex
		x := comes(t, v)
		if env.Leq(x, t[v]) {
			continue
		}
		grown := env.Join(t[v], x)
		if order[i].Head && changes[v] >= c.Delay {
			grown = env.Widen(t[v], grown, c.Thresholds)
		}
		t[v] = grown
		changes[v]++
		changed = true
	}
	return changed
}

// Narrowed is the table behind the narrowing: each time a narrower one is taken only if it is another one, and held by itself.
func Narrowed(t api.Table, times int, comes Flow) api.Table {
	for range times {
		u := make(api.Table, len(t))
		for v, e := range t {
			u[v] = env.Meet(e, comes(t, v))
		}
		if table.Same(u, t) || !held(u, comes) {
			break
		}
		t = u
	}
	return t
}

// held tells whether what comes to each vertex by a table is in it. All are asked, whatever the earlier ones told: the applications count.
func held(t api.Table, comes Flow) bool {
	all := true
	for v, e := range t {
		if !env.Leq(comes(t, v), e) {
			all = false
		}
	}
	return all
}
