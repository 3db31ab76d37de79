package move

import (
	"winnow/aeval"
	"winnow/api"
	"winnow/guard"
	"winnow/num"
)

// step is what an edge of a good program does. It is handed Envs that fit the program, are in their normal form and aren't dead.
type step struct {
	prog api.Prog
	edge api.Edge
}

// deeds are what a step does to Envs: forwards, backwards, and where it faults at the site of a node that it holds.
type deeds struct {
	post func(s *step, e api.Env) (api.Env, []int)
	pre  func(s *step, before, after api.Env) api.Env
	seed func(s *step, before api.Env, at int) api.Env
}

func (s *step) deeds() deeds {
	return [...]deeds{
		api.EAssign: {(*step).postAssign, (*step).preAssign, (*step).seedAssign},
		api.EStore:  {(*step).postStore, (*step).preStore, (*step).seedStore},
		api.EInput:  {(*step).postInput, (*step).preInput, (*step).seedNothing},
		api.EAssert: {(*step).postAssert, (*step).preAssert, (*step).seedAssert},
		api.ESkip:   {(*step).postSkip, (*step).preSkip, (*step).seedNothing},
		api.EAssume: {(*step).postAssume, (*step).preAssume, (*step).seedAssume},
	}[s.edge.Op]
}

// dead is the Env of no store.
func dead() api.Env { return api.Env{Dead: true} }

// sites are those of all nodes that the step evaluates or carries out, rising.
func (s *step) sites() []int {
	var list []int
	for _, site := range s.prog.SiteOf[s.edge.Place:s.behind(s.edge.Place)] {
		if site >= 0 {
			list = append(list, site)
		}
	}
	return list
}

// own is the statement's own site.
func (s *step) own() int { return s.prog.SiteOf[s.edge.Place] }

// target is the number of the scalar or array that the statement names.
func (s *step) target() int { return s.prog.Symbols[s.edge.Place] }

// first is the place of the first expression that the statement holds.
func (s *step) first() int { return s.edge.Place + 1 }

// second is the place of the second one.
func (s *step) second() int { return s.behind(s.first()) }

// behind is the first place that doesn't belong to the node at a place.
func (s *step) behind(place int) int {
	nodes := s.prog.Nodes
	end := place + 1
	for end < len(nodes) && nodes[end].Depth > nodes[place].Depth {
		end++
	}
	return end
}

// length is the number of elements of the array that the node at a place names.
func (s *step) length(place int) int64 {
	return int64(s.prog.Arrays[s.prog.Symbols[place]].Len)
}

// inside is the indices of the array that the statement names.
func (s *step) inside() api.Num { return num.Range(0, s.length(s.edge.Place)-1) }

// The layers below refuse nothing here: the program is good, the Envs fit, and at the places stand expressions of the right sort.

// value is what the expression at a place, which is a number, may be, and the sites that may fault, rising; none of both, if e is dead.
func (s *step) value(e api.Env, place int) (api.Num, []int) {
	v, sites, _ := aeval.Eval(s.prog, e, place)
	return v, sites
}

// back is what is left of e, if the expression at a place, which is a number, is in c.
func (s *step) back(e api.Env, place int, c api.Num) api.Env {
	left, _ := guard.Back(s.prog, e, place, c)
	return left
}

// filter is what is left of e, if the condition at a place has the sense, and the sites that may fault, rising.
func (s *step) filter(e api.Env, place int, sense bool) (api.Env, []int) {
	left, sites, _ := guard.Filter(s.prog, e, place, sense)
	return left, sites
}

// left is what filter leaves.
func (s *step) left(e api.Env, place int, sense bool) api.Env {
	f, _ := s.filter(e, place, sense)
	return f
}
