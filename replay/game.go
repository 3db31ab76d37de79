package replay

import (
	"winnow/api"
	"winnow/cfg"
	"winnow/eval"
	"winnow/num"
	"winnow/table"
)

// inputs tell the number that an input reads, by the vertex behind it and its scalar.
type inputs func(vertex, scalar int) int64

// inputsBy are what a table, which fits, and a try tell.
func inputsBy(t api.Table, try int) inputs {
	// What an Env has in common with itself is its normal form, by which it is dead or not.
	normal, _ := table.Meet(t, t)
	return func(vertex, scalar int) int64 {
		may := num.Top()
		if e := normal[vertex]; !e.Dead {
			may = e.Vars[scalar]
		}
		number, _ := Pick(may, try)
		return number
	}
}

// game is a program's graph, told apart by tokens, as it is played. Nothing that the layers below are handed is refused: the program is good, all stores fit it.
type game struct {
	prog  api.Prog
	edges []api.Edge
	out   [][]api.Link // of each vertex: the links out of it
}

func gameOf(p api.Prog, parted api.Part) game {
	graph, _ := cfg.Lower(p)
	out := make([][]api.Link, len(parted.Verts))
	for _, l := range parted.Links {
		out[l.From] = append(out[l.From], l)
	}
	return game{prog: p, edges: graph.Edges, out: out}
}

// play makes at most so many steps from the entry and zeros; the tape is what the inputs have told.
func (g game) play(fuel int, tell inputs) []int64 {
	var tape []int64
	read := func(vertex, scalar int) int64 {
		tape = append(tape, tell(vertex, scalar))
		return tape[len(tape)-1]
	}
	store, _ := eval.Zero(g.prog)
	vertex, site := 0, -1
	for range fuel {
		if len(g.out[vertex]) == 0 {
			break
		}
		vertex, store, site = g.step(vertex, store, read)
		if site >= 0 {
			break
		}
	}
	return tape
}

// step is one from a vertex with links out of it: where it leads, the store behind it, and the site that faults (-1: none does).
func (g game) step(vertex int, store api.Store, read inputs) (int, api.Store, int) {
	links := g.out[vertex]
	link := links[0]
	edge := g.edges[link.Edge]
	if edge.Op == api.EAssume {
		holds, site, _ := eval.Bool(g.prog, store, edge.Place)
		if holds != edge.Sense {
			link = links[1]
		}
		return link.To, store, site
	}
	input := int64(0)
	if edge.Op == api.EInput {
		input = read(link.To, g.prog.Symbols[edge.Place])
	}
	after, site, _ := eval.Do(g.prog, store, edge.Place, input)
	return link.To, after, site
}
