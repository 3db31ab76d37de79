package bwd

import (
	"slices"

	"winnow/api"
	"winnow/env"
	"winnow/move"
	"winnow/pass"
)

// normal is a table whose Envs are in their normal form: whether one is dead is asked of it then.
func normal(t api.Table) api.Table {
	out := make(api.Table, len(t))
	for v, e := range t {
		out[v] = env.Norm(e)
	}
	return out
}

// exit is a link out of a vertex, and whether its edge holds the site of the pass.
type exit struct {
	api.Link
	holds bool
}

// outOf are each vertex' links out of it, in the links' order.
func outOf(p api.Prog, parted api.Part, site int) [][]exit {
	out := make([][]exit, len(parted.Verts))
	for _, l := range parted.Links {
		holds := slices.Contains(move.Holds(p, l.Edge), site)
		out[l.From] = append(out[l.From], exit{l, holds})
	}
	return out
}

// flowOf is the flow of a pass, the chapter's z(v), which counts its applications. Nothing that the layers below are handed is refused: the program is good, all Envs fit it.
func flowOf(p api.Prog, out [][]exit, within api.Table, site int, applications *int) pass.Flow {
	return func(b api.Table, v int) api.Env {
		all := api.Env{Dead: true}
		if within[v].Dead {
			return all
		}
		for _, x := range out[v] {
			if x.holds {
				*applications++
				seed, _ := move.Seed(p, x.Edge, within[v], site)
				all = env.Join(all, seed)
			}
			after := env.Meet(b[x.To], within[x.To])
			if after.Dead {
				continue
			}
			*applications++
			before, _ := move.Pre(p, x.Edge, within[v], after)
			all = env.Join(all, before)
		}
		return env.Meet(all, within[v])
	}
}
