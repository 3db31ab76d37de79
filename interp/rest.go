package interp

import "winnow/api"

// rest is what is left to do: it tells the statement that comes (-1: none) and what is left to do behind that.
type rest func() (place int, behind rest)

func nothing() (int, rest) { return -1, nothing }

// tree is a program's nodes.
type tree []api.Node

// end is the place behind a node and all that it holds.
func (t tree) end(place int) int {
	end := place + 1
	for end < len(t) && t[end].Depth > t[place].Depth {
		end++
	}
	return end
}

// statements is what is left to do where the statements of a depth from a place on come, and then what is left behind them.
func (t tree) statements(first, depth int, behind rest) rest {
	return func() (int, rest) {
		if first == len(t) || t[first].Depth < depth {
			return behind()
		}
		return first, t.statements(t.end(first), depth, behind)
	}
}

func (t tree) block(place int, behind rest) rest {
	return t.statements(place+1, t[place].Depth+1, behind)
}

// chosen is what is left to do when the condition of the if or while at a place was evaluated.
func (t tree) chosen(place int, holds bool, behind rest) rest {
	first := t.end(place + 1)
	second := t.end(first)
	switch {
	case holds && t[place].Kind == api.KWhile:
		return t.block(first, func() (int, rest) { return place, behind })
	case holds:
		return t.block(first, behind)
	case second < t.end(place):
		return t.block(second, behind)
	}
	return behind
}
