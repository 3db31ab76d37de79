package parse

import (
	"math"

	"winnow/api"
)

// operators are those of one row, from first to last as api numbers them; most is how many may stand in one row of operands.
type operators struct {
	first, last api.Op
	most        int
}

// expr reads an expression: each row of operators has the one that binds closer below it.
func (r *reader) expr() branch {
	product := func() branch { return r.row(operators{api.OpMul, api.OpRem, math.MaxInt}, r.unary) }
	sum := func() branch { return r.row(operators{api.OpAdd, api.OpSub, math.MaxInt}, product) }
	compare := func() branch { return r.row(operators{api.OpLt, api.OpNe, 1}, sum) }
	and := func() branch { return r.row(operators{api.OpAnd, api.OpAnd, math.MaxInt}, compare) }
	return r.row(operators{api.OpOr, api.OpOr, math.MaxInt}, and)
}

// row reads operands of the row below with a row's operators between them, grouped to the left.
func (r *reader) row(of operators, below func() branch) branch {
	left := below()
	for range of.most {
		op := binary(r.pieces[0].Text)
		if op < of.first || op > of.last {
			break
		}
		left = branch{api.Node{Kind: api.KBinary, Op: op, At: r.step().At}, []branch{left, below()}}
	}
	return left
}

// binary is the operator between two operands that a sign stands for, or OpNone.
func binary(sign string) api.Op {
	switch sign {
	case "+":
		return api.OpAdd
	case "-":
		return api.OpSub
	case "*":
		return api.OpMul
	case "/":
		return api.OpDiv
	case "%":
		return api.OpRem
	case "<":
		return api.OpLt
	case "<=":
		return api.OpLe
	case ">":
		return api.OpGt
	case ">=":
		return api.OpGe
	case "==":
		return api.OpEq
	case "!=":
		return api.OpNe
	case "&&":
		return api.OpAnd
	case "||":
		return api.OpOr
	}
	return api.OpNone
}

func (r *reader) unary() branch {
	switch {
	case r.sees("-"):
		return branch{api.Node{Kind: api.KUnary, Op: api.OpNeg, At: r.step().At}, []branch{r.unary()}}
	case r.sees("!"):
		return branch{api.Node{Kind: api.KUnary, Op: api.OpNot, At: r.step().At}, []branch{r.unary()}}
	}
	return r.atom()
}

func (r *reader) atom() branch {
	switch {
	case r.sees("true"):
		return branch{node: api.Node{Kind: api.KBool, Num: 1, At: r.step().At}}
	case r.sees("false"):
		return branch{node: api.Node{Kind: api.KBool, At: r.step().At}}
	case r.sees("("):
		r.step()
		inner := r.expr()
		r.take(")")
		return inner
	case r.pieces[0].Kind == api.TNum:
		number := r.step()
		return branch{node: api.Node{Kind: api.KNum, Num: number.Num, At: number.At}}
	}
	return r.named(api.KRead, api.KLoad)
}
