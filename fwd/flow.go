package fwd

import (
	"winnow/api"
	"winnow/env"
	"winnow/move"
	"winnow/pass"
)

// cutTo cuts an Env to the limit's at a vertex, if there is a limit.
func cutTo(limit api.Table) func(e api.Env, v int) api.Env {
	if len(limit) == 0 {
		return func(e api.Env, _ int) api.Env { return e }
	}
	return func(e api.Env, v int) api.Env { return env.Meet(e, limit[v]) }
}

// flowOf is the flow of a pass, the chapter's x(v), which counts its applications. Nothing that the layers below are handed is refused: the program is good, all Envs fit it.
func flowOf(p api.Prog, parted api.Part, start api.Env, within func(e api.Env, v int) api.Env, applications *int) pass.Flow {
	into := make([][]api.Link, len(parted.Verts))
	for _, l := range parted.Links {
		into[l.To] = append(into[l.To], l)
	}
	return func(t api.Table, v int) api.Env {
		all := api.Env{Dead: true}
		if v == 0 {
			all = start
		}
		for _, l := range into[v] {
			e := within(t[l.From], l.From)
			if e.Dead {
				continue
			}
			*applications++
			after, _, _ := move.Post(p, l.Edge, e)
			all = env.Join(all, after)
		}
		return within(all, v)
	}
}
