package cfg

import "winnow/api"

// steps tells of each kind of node whether it is a step, and what its edges do.
var steps = [api.KBinary + 1]struct {
	made bool
	op   api.EdgeOp
}{
	api.KAssign: {true, api.EAssign},
	api.KStore:  {true, api.EStore},
	api.KInput:  {true, api.EInput},
	api.KAssert: {true, api.EAssert},
	api.KSkip:   {true, api.ESkip},
	api.KIf:     {true, api.EAssume},
	api.KWhile:  {true, api.EAssume},
}

// tree is a program's nodes.
type tree []api.Node

// end is the place behind a node and all that it holds.
func (t tree) end(place int) int {
	end := place + 1
	for end < len(t) && t[end].Depth > t[place].Depth {
		end++
	}
	return end
}

// points are the numbers of the points ahead of all places: how many stepping nodes stand ahead of each. The one behind the last place is the exit.
func (t tree) points() []int {
	list := make([]int, len(t)+1)
	for place, n := range t {
		list[place+1] = list[place]
		if steps[n.Kind].made {
			list[place+1]++
		}
	}
	return list
}

// edges are those of all stepping nodes, in order.
func (t tree) edges(points []int) []api.Edge {
	var list []api.Edge
	// A stretch is statements of one block, from a place up to another; an empty one begins at what follows it.
	begin := func(first, end, follows int) int {
		if first < end {
			return points[first]
		}
		return follows
	}
	var stretch func(first, end, follows int)
	choice := func(place, next int) {
		first := t.end(place + 1)
		second, end := t.end(first), t.end(place)
		loop := t[place].Kind == api.KWhile
		behind := next
		if loop {
			behind = points[place]
		}
		edge := api.Edge{From: points[place], Op: steps[t[place].Kind].op, Place: place + 1, Loop: loop}
		yes, no := edge, edge
		yes.Sense, yes.To = true, begin(first+1, second, behind)
		// Where there is no second block its stretch is empty, as all ends where the first one does.
		no.To = begin(second+1, end, next)
		list = append(list, yes, no)
		stretch(first+1, second, behind)
		stretch(second+1, end, next)
	}
	stretch = func(first, end, follows int) {
		for place := first; place < end; place = t.end(place) {
			next := begin(t.end(place), end, follows)
			switch step := steps[t[place].Kind]; {
			case step.op == api.EAssume:
				choice(place, next)
			case step.made:
				list = append(list, api.Edge{From: points[place], To: next, Op: step.op, Place: place})
			}
		}
	}
	// Declarations make no step: what is ahead of the first statement is the entry.
	stretch(0, len(t), points[len(t)])
	return list
}
