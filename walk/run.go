package walk

import (
	"slices"

	"winnow/api"
	"winnow/eval"
)

// run is a run on its way: its outcome is that of the steps that were made.
type run struct {
	api.Outcome
	graph api.Graph
	tape  []int64
	fuel  int
	store api.Store
}

// begun is a run ahead of its first step.
func begun(graph api.Graph, tape []int64, fuel int) *run {
	zeros, _ := eval.Zero(graph.Prog)
	return &run{Outcome: api.Outcome{Site: -1}, graph: graph, tape: tape, fuel: fuel, store: zeros}
}

// looks plays the run to its end, and gives at each look the edge that was gone to it (-1: it is the first look) and the node.
func (r *run) looks(yield func(edge, node int) bool) {
	edges, deeds := r.graph.Edges, r.deeds()
	edge, node := -1, 0
play:
	for yield(edge, node) {
		first := r.first(node)
		switch {
		case node == r.graph.Exit:
			r.Kind = api.Halt
			break play
		case r.Steps == r.fuel:
			r.Kind = api.OutOfFuel
			break play
		case edges[first].Op == api.EInput && r.Reads == len(r.tape):
			r.Kind = api.Exhausted
			break play
		}
		r.Steps++
		gone, site := deeds[edges[first].Op](first)
		if site >= 0 {
			r.Kind, r.Site = api.Faulted, site
			break play
		}
		edge, node = gone, edges[gone].To
	}
}

// first is the first edge out of a node; the exit has none: -1.
func (r *run) first(node int) int {
	return slices.IndexFunc(r.graph.Edges, func(e api.Edge) bool { return e.From == node })
}

// deed makes the step of a node whose first edge it is handed: it tells the edge that is gone, or the site that faults (-1: none does).
type deed func(edge int) (gone, site int)

// deeds are what the run does at each Op.
func (r *run) deeds() [api.EAssume + 1]deed {
	return [...]deed{
		api.EAssign: r.carryOut(nothing),
		api.EStore:  r.carryOut(nothing),
		api.EInput:  r.carryOut(r.read),
		api.EAssert: r.carryOut(nothing),
		api.ESkip:   r.carryOut(nothing),
		api.EAssume: r.choose,
	}
}

// carryOut is the deed of an Op with one edge, which is handed what input tells.
func (r *run) carryOut(input func() int64) deed {
	return func(edge int) (int, int) {
		after, site, _ := eval.Do(r.graph.Prog, r.store, r.graph.Edges[edge].Place, input())
		if site < 0 {
			r.store = after
		}
		return edge, site
	}
}

// nothing is the input of a statement that reads none.
func nothing() int64 { return 0 }

func (r *run) read() int64 {
	r.Reads++
	return r.tape[r.Reads-1]
}

// choose is the deed of a condition: of its two edges the one is gone whose Sense it has.
func (r *run) choose(edge int) (int, int) {
	holds, site, _ := eval.Bool(r.graph.Prog, r.store, r.graph.Edges[edge].Place)
	if r.graph.Edges[edge].Sense != holds {
		edge++
	}
	return edge, site
}

// copied is the store in new memory, which Zero makes of the right shape.
func (r *run) copied() api.Store {
	s, _ := eval.Zero(r.graph.Prog)
	copy(s.Vars, r.store.Vars)
	for i, list := range r.store.Arrays {
		copy(s.Arrays[i], list)
	}
	return s
}
