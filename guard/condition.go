package guard

import (
	"slices"

	"winnow/aeval"
	"winnow/api"
	"winnow/env"
	"winnow/inv"
)

// outcome is what a condition makes of an Env.
type outcome struct {
	sites []int                    // that may fault, rising: the same for both senses
	left  func(sense bool) api.Env // what is left where it has a sense; worked out when it is asked for
}

// condition is what the condition at a place makes of e. Both senses are told at once: of what stands on the left of && and || both are needed, and a deep condition that is gone through anew for each is gone through twice as often with each level.
func (g *guarding) condition(e api.Env, place int) outcome {
	n := g.prog.Nodes[place]
	switch {
	case n.Kind == api.KBool:
		return constant(e, n.Num == 1)
	case n.Kind == api.KUnary:
		return negated(g.condition(e, place+1))
	case n.Op == api.OpAnd || n.Op == api.OpOr:
		left := func(e api.Env) outcome { return g.condition(e, place+1) }
		right := func(e api.Env) outcome { return g.condition(e, g.behind(place+1)) }
		return decided(e, n.Op == api.OpOr, left, right)
	}
	return g.comparison(e, place)
}

// constant is of a condition that holds always or never.
func constant(e api.Env, holds bool) outcome {
	return outcome{left: func(sense bool) api.Env {
		if sense == holds {
			return e
		}
		return dead()
	}}
}

// negated is of a condition that holds where another one doesn't.
func negated(o outcome) outcome {
	return outcome{sites: o.sites, left: func(sense bool) api.Env { return o.left(!sense) }}
}

// decided is of two conditions of which the left one decides alone where it is as by says: only where it isn't does the right one have its say.
func decided(e api.Env, by bool, left, right func(e api.Env) outcome) outcome {
	first := left(e)
	second := right(first.left(!by))
	return outcome{
		// What stands on the left has the lower numbers, so these rise.
		sites: slices.Concat(first.sites, second.sites),
		left: func(sense bool) api.Env {
			if sense != by {
				return second.left(sense)
			}
			return env.Join(first.left(sense), second.left(sense))
		},
	}
}

// comparison is of two numbers. Where one of them is none, neither sense leaves anything.
func (g *guarding) comparison(e api.Env, place int) outcome {
	l, sites, _ := aeval.Eval(g.prog, e, place+1)
	if l.Bot {
		// Nothing goes on to the right one, so none of its sites may fault.
		return outcome{sites: sites, left: func(bool) api.Env { return dead() }}
	}
	r, more, _ := aeval.Eval(g.prog, e, g.behind(place+1))
	return outcome{
		sites: slices.Concat(sites, more),
		left: func(sense bool) api.Env {
			op := g.prog.Nodes[place].Op
			if !sense {
				op, _ = inv.Negate(op)
			}
			left, right, _ := inv.Compare(op, l, r)
			return g.backBoth(e, place, left, right)
		},
	}
}
