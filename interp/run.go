package interp

import (
	"winnow/api"
	"winnow/eval"
)

// run is a run on its way: its outcome is that of the steps that were made.
type run struct {
	api.Outcome
	prog  api.Prog
	tape  []int64
	fuel  int
	store api.Store
}

// begun is a run ahead of its first step.
func begun(p api.Prog, tape []int64, fuel int) *run {
	zeros, _ := eval.Zero(p)
	return &run{Outcome: api.Outcome{Site: -1}, prog: p, tape: tape, fuel: fuel, store: zeros}
}

// looks plays the run to its end, and gives at each look the statement that comes (-1: none).
func (r *run) looks(yield func(place int) bool) {
	nodes := tree(r.prog.Nodes)
	left := nodes.statements(len(r.prog.Scalars)+len(r.prog.Arrays), 1, nothing)
play:
	for {
		place, behind := left()
		if !yield(place) || r.ends(place) {
			return
		}
		r.Steps++
		switch nodes[place].Kind {
		case api.KIf, api.KWhile:
			holds, site, _ := eval.Bool(r.prog, r.store, place+1)
			if r.Site = site; site >= 0 {
				break play
			}
			left = nodes.chosen(place, holds, behind)
		default:
			after, site, _ := eval.Do(r.prog, r.store, place, r.input(place))
			if r.Site = site; site >= 0 {
				break play
			}
			r.store, left = after, behind
		}
	}
	r.Kind = api.Faulted
}

// ends tells whether the run ends ahead of the statement that comes, and keeps how.
func (r *run) ends(place int) bool {
	switch {
	case place < 0:
		r.Kind = api.Halt
	case r.Steps == r.fuel:
		r.Kind = api.OutOfFuel
	case r.reads(place) && r.Reads == len(r.tape):
		r.Kind = api.Exhausted
	default:
		return false
	}
	return true
}

func (r *run) reads(place int) bool { return r.prog.Nodes[place].Kind == api.KInput }

// input is the number that a statement reads; one that reads none isn't counted and gets 0.
func (r *run) input(place int) int64 {
	if !r.reads(place) {
		return 0
	}
	r.Reads++
	return r.tape[r.Reads-1]
}
