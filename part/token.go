package part

import (
	"strconv"

	"winnow/api"
)

// step is what an edge makes of a token, no node being merged. The answer is in memory of its own.
type step func(t api.Token) api.Token

// stepOf chooses an edge's step.
func stepOf(edge api.Edge, number int, c api.Config) step {
	switch {
	case edge.Op != api.EAssume:
		return copied
	case !edge.Loop:
		return remember(number, c.Hist)
	case !edge.Sense:
		return leave(edge.From)
	case c.Unroll > 0:
		return goRound(edge.From, c.Unroll)
	}
	return copied
}

// copied is a token without anything of the other's memory; of a Merged one nothing else is kept.
func copied(t api.Token) api.Token {
	if t.Merged {
		return api.Token{Merged: true}
	}
	return api.Token{Hist: append([]int(nil), t.Hist...), Loops: append([]api.Loop(nil), t.Loops...)}
}

// remember puts an if's edge behind the decisions, while there are fewer than most.
func remember(edge, most int) step {
	return func(t api.Token) api.Token {
		t = copied(t)
		if !t.Merged && len(t.Hist) < most {
			t.Hist = append(t.Hist, edge)
		}
		return t
	}
}

// goRound begins one more round of a loop; most are told apart.
func goRound(head, most int) step {
	return func(t api.Token) api.Token {
		t = copied(t)
		switch last := len(t.Loops) - 1; {
		case t.Merged:
		case within(t, head):
			// One is added behind the cut: a Count may be the greatest int.
			t.Loops[last].Count = min(t.Loops[last].Count, most-1) + 1
		default:
			t.Loops = append(t.Loops, api.Loop{Head: head, Count: 1})
		}
		return t
	}
}

// leave forgets a loop, if the token is in it.
func leave(head int) step {
	return func(t api.Token) api.Token {
		if within(t, head) {
			t.Loops = t.Loops[:len(t.Loops)-1]
		}
		return copied(t)
	}
}

// within tells whether the innermost loop that a token is in has that head.
func within(t api.Token, head int) bool {
	last := len(t.Loops) - 1
	return last >= 0 && t.Loops[last].Head == head
}

// textOf is the text by which a token at a node is found again: another one for every other pair.
func textOf(node int, t api.Token) string {
	text := strconv.AppendInt(nil, int64(node), 10)
	if t.Merged {
		return string(append(text, " merged"...))
	}
	for _, edge := range t.Hist {
		text = strconv.AppendInt(append(text, " if "...), int64(edge), 10)
	}
	for _, l := range t.Loops {
		text = strconv.AppendInt(append(text, " while "...), int64(l.Head), 10)
		text = strconv.AppendInt(append(text, " round "...), int64(l.Count), 10)
	}
	return string(text)
}
