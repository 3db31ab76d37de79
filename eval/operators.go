package eval

import (
	"winnow/api"
	"winnow/word"
)

func isNumber(n api.Node) bool {
	switch n.Kind {
	case api.KNum, api.KRead, api.KLoad:
		return true
	case api.KUnary:
		return n.Op == api.OpNeg
	case api.KBinary:
		return n.Op <= api.OpRem
	}
	return false
}

// isCondition goes by api's order of the kinds, in which the expressions are the last.
func isCondition(n api.Node) bool { return n.Kind >= api.KNum && !isNumber(n) }

// isSimple tells whether a statement is a step as a whole.
func isSimple(n api.Node) bool {
	switch n.Kind {
	case api.KAssign, api.KStore, api.KInput, api.KAssert, api.KSkip:
		return true
	}
	return false
}

// arithmetic is what an operator makes of two numbers; false: it faults.
func arithmetic(op api.Op) func(a, b int64) (int64, bool) {
	table := [...]func(a, b int64) (int64, bool){
		api.OpAdd: func(a, b int64) (int64, bool) { return word.Add(a, b), true },
		api.OpSub: func(a, b int64) (int64, bool) { return word.Sub(a, b), true },
		api.OpMul: func(a, b int64) (int64, bool) { return word.Mul(a, b), true },
		api.OpDiv: word.Div,
		api.OpRem: word.Rem,
	}
	return table[op]
}

// comparison is what an operator tells of two numbers.
func comparison(op api.Op) func(a, b int64) bool {
	table := [...]func(a, b int64) bool{
		api.OpLt: func(a, b int64) bool { return a < b },
		api.OpLe: func(a, b int64) bool { return a <= b },
		api.OpGt: func(a, b int64) bool { return a > b },
		api.OpGe: func(a, b int64) bool { return a >= b },
		api.OpEq: func(a, b int64) bool { return a == b },
		api.OpNe: func(a, b int64) bool { return a != b },
	}
	return table[op]
}
