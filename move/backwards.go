package move

import (
	"winnow/api"
	"winnow/env"
	"winnow/num"
)

func (s *step) preAssign(before, after api.Env) api.Env {
	// But for the value an assignment is an input.
	m := s.preInput(before, after)
	return s.back(m, s.first(), after.Vars[s.target()])
}

func (s *step) preStore(before, after api.Env) api.Env {
	array := s.target()
	m := env.Meet(before, env.SetArray(after, array, num.Top()))
	f := s.back(m, s.first(), s.inside())
	return s.back(f, s.second(), after.Arrays[array])
}

// preInput goes back through a scalar that becomes another one: what it is behind the step says nothing of what it was.
func (s *step) preInput(before, after api.Env) api.Env {
	return env.Meet(before, env.SetVar(after, s.target(), num.Top()))
}

func (s *step) preSkip(before, after api.Env) api.Env { return env.Meet(before, after) }

func (s *step) preAssert(before, after api.Env) api.Env {
	return s.left(env.Meet(before, after), s.first(), true)
}

func (s *step) preAssume(before, after api.Env) api.Env {
	return s.left(env.Meet(before, after), s.edge.Place, s.edge.Sense)
}
