package move

import (
	"math"

	"winnow/api"
	"winnow/env"
	"winnow/num"
)

func (s *step) seedAssign(before api.Env, at int) api.Env { return s.reach(before, s.first(), at) }

func (s *step) seedStore(before api.Env, at int) api.Env {
	switch {
	case at == s.edge.Place:
		return s.outside(before, at)
	case at < s.second():
		return s.reach(before, s.first(), at)
	}
	// The value is evaluated only where the index is inside.
	return s.reach(s.back(before, s.first(), s.inside()), s.second(), at)
}

func (s *step) seedAssert(before api.Env, at int) api.Env {
	if at == s.edge.Place {
		return s.left(before, s.first(), false)
	}
	return s.reach(before, s.first(), at)
}

func (s *step) seedAssume(before api.Env, at int) api.Env {
	return s.reach(before, s.edge.Place, at)
}

// seedNothing is of a step that holds no site.
func (s *step) seedNothing(api.Env, int) api.Env { return dead() }

// reach is what is left of e, if the expression at a place faults at the node at, which stands in it.
func (s *step) reach(e api.Env, place, at int) api.Env {
	if place == at {
		return s.fault(e, place)
	}
	left := place + 1
	right := s.behind(left)
	if at < right {
		return s.reach(e, left, at)
	}
	switch op := s.prog.Nodes[place].Op; op {
	case api.OpAnd, api.OpOr:
		// The right one is evaluated only where the left one doesn't decide.
		e = s.left(e, left, op == api.OpAnd)
	}
	return s.reach(e, right, at)
}

// fault is what is left of e, if the load or division at a place faults itself.
func (s *step) fault(e api.Env, place int) api.Env {
	if s.prog.Nodes[place].Kind == api.KLoad {
		return s.outside(e, place)
	}
	return s.back(e, s.behind(place+1), num.Const(0))
}

// outside is what is left of e, if the index of the load or store at a place, which stands right behind it, is none of the array's.
func (s *step) outside(e api.Env, place int) api.Env {
	below := s.back(e, place+1, num.Range(math.MinInt64, -1))
	above := s.back(e, place+1, num.Range(s.length(place), math.MaxInt64))
	return env.Join(below, above)
}
