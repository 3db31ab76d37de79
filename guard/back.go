package guard

import (
	"winnow/aeval"
	"winnow/api"
	"winnow/env"
	"winnow/inv"
	"winnow/num"
)

// guarding goes down the expressions of a good program, in Envs that fit it and are in their normal form.
type guarding struct{ prog api.Prog }

// dead is the Env of no store.
func dead() api.Env { return api.Env{Dead: true} }

// value is what the expression at a place, which is a number, may be; none, if e is dead.
func (g *guarding) value(e api.Env, place int) api.Num {
	v, _, _ := aeval.Eval(g.prog, e, place)
	return v
}

// back is what is left of e, if the expression at a place, which is a number, is in c.
func (g *guarding) back(e api.Env, place int, c api.Num) api.Env {
	some := num.Meet(g.value(e, place), c)
	if some.Bot {
		return dead()
	}
	switch n := g.prog.Nodes[place]; n.Kind {
	case api.KRead:
		return env.SetVar(e, g.prog.Symbols[place], some)
	case api.KLoad:
		return g.backLoad(e, place, c)
	case api.KUnary:
		opposite, _ := num.Apply(api.OpNeg, c, c)
		return g.back(e, place+1, opposite)
	case api.KBinary:
		// Of a divisor Solve itself leaves 0 out.
		left, right, _ := inv.Solve(n.Op, g.value(e, place+1), g.value(e, g.behind(place+1)), c)
		return g.backBoth(e, place, left, right)
	}
	// That a literal is in c says nothing of the stores.
	return e
}

// backLoad is what is left of e, if the load at a place doesn't fault and gives a number of c.
func (g *guarding) backLoad(e api.Env, place int, c api.Num) api.Env {
	array := g.prog.Symbols[place]
	length := g.prog.Arrays[array].Len
	f := g.back(e, place+1, num.Range(0, int64(length)-1))
	// Of several elements one Num is kept: that one of them is in c says nothing of the others.
	if f.Dead || length > 1 {
		return f
	}
	return env.SetArray(f, array, num.Meet(f.Arrays[array], c))
}

// backBoth is what is left of e, if the operands of the node at a place are in left and in right: the right one is gone back through in what the left one has left. Where one of the two is none, nothing is left.
func (g *guarding) backBoth(e api.Env, place int, left, right api.Num) api.Env {
	f := g.back(e, place+1, left)
	return g.back(f, g.behind(place+1), right)
}

// behind is the first place that doesn't belong to the expression at a place.
func (g *guarding) behind(place int) int {
	nodes := g.prog.Nodes
	end := place + 1
	for end < len(nodes) && nodes[end].Depth > nodes[place].Depth {
		end++
	}
	return end
}
