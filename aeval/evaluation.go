package aeval

import (
	"winnow/api"
	"winnow/num"
)

// evaluation goes down an expression in an Env that isn't dead and is in its normal form.
type evaluation struct {
	prog api.Prog
	env  api.Env
	tell func(place int) // takes the node of a site that may fault
}

// number is what the expression at a place, which is a number, may be.
func (v *evaluation) number(place int) api.Num {
	kinds := [...]func(v *evaluation, place int) api.Num{
		api.KNum:    (*evaluation).literal,
		api.KRead:   (*evaluation).scalar,
		api.KLoad:   (*evaluation).load,
		api.KUnary:  (*evaluation).negation,
		api.KBinary: (*evaluation).binary,
	}
	return kinds[v.prog.Nodes[place].Kind](v, place)
}

func (v *evaluation) literal(place int) api.Num { return num.Const(v.prog.Nodes[place].Num) }

func (v *evaluation) scalar(place int) api.Num { return v.env.Vars[v.prog.Symbols[place]] }

func (v *evaluation) load(place int) api.Num {
	index := v.number(place + 1)
	array := v.prog.Symbols[place]
	inside := num.Range(0, int64(v.prog.Arrays[array].Len)-1)
	// An index that is none is below all: where nothing comes to the load, it doesn't fault.
	if !num.Leq(index, inside) {
		v.tell(place)
	}
	if num.Meet(index, inside).Bot {
		return num.Bot()
	}
	return v.env.Arrays[array]
}

func (v *evaluation) negation(place int) api.Num {
	return applied(api.OpNeg, v.number(place+1), num.Bot())
}

func (v *evaluation) binary(place int) api.Num {
	left := v.number(place + 1)
	if left.Bot {
		// Nothing goes on to the right one, so none of its sites may fault.
		return left
	}
	right := v.number(v.behind(place + 1))
	op := v.prog.Nodes[place].Op
	if op == api.OpDiv || op == api.OpRem {
		right = v.divisor(place, right)
	}
	return applied(op, left, right)
}

// divisor is what is left of a right operand where the division at a place doesn't fault.
func (v *evaluation) divisor(place int, right api.Num) api.Num {
	if num.Has(right, 0) {
		v.tell(place)
	}
	return num.NonZero(right)
}

// behind is the first place that doesn't belong to the expression at a place.
func (v *evaluation) behind(place int) int {
	nodes := v.prog.Nodes
	end := place + 1
	for end < len(nodes) && nodes[end].Depth > nodes[place].Depth {
		end++
	}
	return end
}

// applied is what an operator that makes numbers of numbers, so that it can't be refused, makes of its operands: none, if one is none.
func applied(op api.Op, left, right api.Num) api.Num {
	answer, _ := num.Apply(op, left, right)
	return answer
}
