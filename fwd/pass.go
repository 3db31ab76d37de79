package fwd

import (
	"slices"

	"winnow/api"
	"winnow/env"
	"winnow/move"
	"winnow/table"
	"winnow/wto"
)

// flow tells what comes to a vertex by a table: the chapter's x(v).
type flow func(t api.Table, v int) api.Env

// cutTo cuts an Env to the limit's at a vertex, if there is a limit.
func cutTo(limit api.Table) func(e api.Env, v int) api.Env {
	if len(limit) == 0 {
		return func(e api.Env, _ int) api.Env { return e }
	}
	return func(e api.Env, v int) api.Env { return env.Meet(e, limit[v]) }
}

// flowOf is the flow of a pass, which counts its applications. Nothing that the layers below are handed is refused: the program is good, all Envs fit it.
func flowOf(p api.Prog, parted api.Part, start api.Env, within func(e api.Env, v int) api.Env, applications *int) flow {
	into := make([][]api.Link, len(parted.Verts))
	for _, l := range parted.Links {
		into[l.To] = append(into[l.To], l)
	}
	return func(t api.Table, v int) api.Env {
		all := dead()
		if v == 0 {
			all = start
		}
		for _, l := range into[v] {
			e := within(t[l.From], l.From)
			if e.Dead {
				continue
			}
			*applications++
			after, _, _ := move.Post(p, l.Edge, e)
			all = env.Join(all, after)
		}
		return within(all, v)
	}
}

// dead is the Env of no store.
func dead() api.Env { return api.Env{Dead: true} }

// settled is the table behind the sweeps: from dead Envs on, until a sweep has changed none.
func settled(parted api.Part, c api.Config, comes flow) api.Table {
	t := slices.Repeat(api.Table{dead()}, len(parted.Verts))
	order := orderOf(parted)
	changes := make([]int, len(t))
	for sweep(t, order, changes, c, comes) {
	}
	return t
}

// orderOf is the order in which a sweep goes; all vertices stand in it.
func orderOf(parted api.Part) []api.Elem {
	var arcs []api.Arc
	for _, l := range parted.Links {
		arcs = append(arcs, api.Arc{From: l.From, To: l.To})
	}
	order, _ := wto.Order(len(parted.Verts), arcs, 0)
	return order
}

// sweep goes through the order once, each vertex by what those ahead of it have become; it tells whether one has changed.
func sweep(t api.Table, order []api.Elem, changes []int, c api.Config, comes flow) bool {
	changed := false
	for i := range order {
		v := order[i].Vertex
		x := comes(t, v)
		if env.Leq(x, t[v]) {
			continue
		}
		grown := env.Join(t[v], x)
		if order[i].Head && changes[v] >= c.Delay {
			grown = env.Widen(t[v], grown, c.Thresholds)
		}
		t[v] = grown
		changes[v]++
		changed = true
	}
	return changed
}

// narrowed is the table behind the narrowing: each time a narrower one is taken only if it is another one, and held by itself.
func narrowed(t api.Table, times int, comes flow) api.Table {
	for range times {
		u := make(api.Table, len(t))
		for v, e := range t {
			u[v] = env.Meet(e, comes(t, v))
		}
		if table.Same(u, t) || !held(u, comes) {
			break
		}
		t = u
	}
	return t
}

// held tells whether what comes to each vertex by a table is in it. All are asked, whatever the earlier ones told: the applications count.
func held(t api.Table, comes flow) bool {
	all := true
	for v, e := range t {
		if !env.Leq(comes(t, v), e) {
			all = false
		}
	}
	return all
}
