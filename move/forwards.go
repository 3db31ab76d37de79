package move

import (
	"slices"

	"winnow/api"
	"winnow/env"
	"winnow/num"
)

func (s *step) postAssign(e api.Env) (api.Env, []int) {
	v, sites := s.value(e, s.first())
	// With a value that is none the Env is dead.
	return env.SetVar(e, s.target(), v), sites
}

func (s *step) postStore(e api.Env) (api.Env, []int) {
	index, sites := s.value(e, s.first())
	// An index that is none is below all: where nothing comes to the store, it doesn't fault.
	if !num.Leq(index, s.inside()) {
		sites = s.withOwn(sites)
	}
	f := s.back(e, s.first(), s.inside())
	v, more := s.value(f, s.second())
	// What stands in the value has greater numbers than what stands in the index.
	sites = slices.Concat(sites, more)
	if v.Bot {
		// So it is, too, if nothing is left of e by the index.
		return dead(), sites
	}
	array := s.target()
	if s.length(s.edge.Place) > 1 {
		// Which of the elements is another one now isn't known.
		v = num.Join(f.Arrays[array], v)
	}
	return env.SetArray(f, array, v), sites
}

func (s *step) postInput(e api.Env) (api.Env, []int) {
	return env.SetVar(e, s.target(), num.Top()), nil
}

func (s *step) postSkip(e api.Env) (api.Env, []int) { return e, nil }

func (s *step) postAssert(e api.Env) (api.Env, []int) {
	f, sites := s.filter(e, s.first(), true)
	if !s.left(e, s.first(), false).Dead {
		sites = s.withOwn(sites)
	}
	return f, sites
}

func (s *step) postAssume(e api.Env) (api.Env, []int) {
	return s.filter(e, s.edge.Place, s.edge.Sense)
}

// withOwn is the statement's own site and others, which rise: it stands ahead of all that it holds.
func (s *step) withOwn(sites []int) []int { return slices.Concat([]int{s.own()}, sites) }
