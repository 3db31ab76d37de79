package proof

import (
	"slices"

	"winnow/api"
	"winnow/env"
	"winnow/move"
)

// checker looks at tables for one site of a good program. Nothing that it hands to the layers below is refused: the tables fit, the edges are the links', and a site is seeded where an edge holds it alone.
type checker struct {
	prog  api.Prog
	links []api.Link
	zeros api.Env
	site  int
}

// duty is what a table must do: hold an Env at the entry, and what it is asked for at each link.
type duty struct {
	entry api.Env
	kept  func(l api.Link) bool
}

// chained tells whether each table does what it must.
func (k checker) chained(tables []api.Table) bool {
	for i, t := range tables {
		if !k.holds(t, k.dutyOf(tables, i)) {
			return false
		}
	}
	return true
}

// dutyOf is what the table at a place must do.
func (k checker) dutyOf(tables []api.Table, place int) duty {
	switch {
	case place == 0:
		return k.first(tables[0])
	case backward(place):
		return k.back(tables[place-1], tables[place])
	}
	return k.again(tables[place-1], tables[place])
}

// backward tells whether the table at a place is one.
func backward(place int) bool { return place%2 == 1 }

// holds tells whether a table does its duty.
func (k checker) holds(t api.Table, d duty) bool {
	if !env.Leq(d.entry, t[0]) {
		return false
	}
	for _, l := range k.links {
		if !d.kept(l) {
			return false
		}
	}
	return true
}

// first is the duty of the first table: to hold all runs.
func (k checker) first(t api.Table) duty {
	return duty{k.zeros, func(l api.Link) bool {
		return env.Leq(k.post(l, t[l.From]), t[l.To])
	}}
}

// back is the duty of a backward table: to hold what faults at the site, and what leads to that, of all that is in the table within which it stands.
func (k checker) back(within, t api.Table) duty {
	return duty{api.Env{Dead: true}, func(l api.Link) bool {
		from := within[l.From]
		has := func(e api.Env) bool { return env.Leq(env.Meet(e, from), t[l.From]) }
		return has(k.seed(l, from)) && has(k.pre(l, from, env.Meet(t[l.To], within[l.To])))
	}}
}

// again is the duty of a later forward table: to hold the runs that stay in the backward one within which it stands.
func (k checker) again(within, t api.Table) duty {
	return duty{env.Meet(within[0], k.zeros), func(l api.Link) bool {
		after := k.post(l, env.Meet(t[l.From], within[l.From]))
		return env.Leq(env.Meet(after, within[l.To]), t[l.To])
	}}
}

// shown tells whether a chain's last table shows the site: if it is backward, no run begins in it; if it is forward, the site can't fault in it.
func (k checker) shown(tables []api.Table) bool {
	place := len(tables) - 1
	last := tables[place]
	if backward(place) {
		return env.Meet(last[0], k.zeros).Dead
	}
	return !slices.ContainsFunc(k.links, func(l api.Link) bool {
		_, sites, _ := move.Post(k.prog, l.Edge, last[l.From])
		return slices.Contains(sites, k.site)
	})
}

// post is what a link's step makes of an Env.
func (k checker) post(l api.Link, e api.Env) api.Env {
	after, _, _ := move.Post(k.prog, l.Edge, e)
	return after
}

// pre is what a link's step may lead from one Env into another.
func (k checker) pre(l api.Link, before, after api.Env) api.Env {
	e, _ := move.Pre(k.prog, l.Edge, before, after)
	return e
}

// seed is what may fault at the site by a link's step: nothing, if its edge doesn't hold the site.
func (k checker) seed(l api.Link, before api.Env) api.Env {
	if !slices.Contains(move.Holds(k.prog, l.Edge), k.site) {
		return api.Env{Dead: true}
	}
	e, _ := move.Seed(k.prog, l.Edge, before, k.site)
	return e
}
