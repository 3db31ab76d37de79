package num

import (
	"winnow/api"
	"winnow/cong"
	"winnow/ival"
)

// NonZero is a without 0, where that stands at an end: a 0 within can't be told apart.
func NonZero(a api.Num) api.Num {
	a = Norm(a)
	switch {
	case a.Bot:
		return a
	case a.I.Lo == 0:
		return Make(api.Ival{Lo: 1, Hi: a.I.Hi}, a.C)
	case a.I.Hi == 0:
		return Make(api.Ival{Lo: a.I.Lo, Hi: -1}, a.C)
	}
	return a
}

// Apply is an operator of one or two numbers (of OpNeg b isn't looked at).
func Apply(op api.Op, a, b api.Num) (api.Num, api.Errno) {
	rule, ok := find(op)
	if !ok {
		return api.Num{}, api.ErrArg
	}
	a, b = rule.operands(a, b)
	if a.Bot || b.Bot {
		return Bot(), api.OK
	}
	results, exact := rule.intervals(a.I, b.I)
	return Make(results, rule.classes(a.C, b.C, exact)), api.OK
}

// sides is how an operator takes its operands: what its part for intervals and its part for classes both need.
type sides struct {
	op      api.Op
	alone   bool // there is no right one
	divides bool // the right one isn't 0
}

// operands are the normal forms of a and b as the operator takes them.
func (s sides) operands(a, b api.Num) (api.Num, api.Num) {
	a = Norm(a)
	switch {
	case s.alone:
		// Any one that has numbers where a has some: it has no say then.
		return a, a
	case s.divides:
		return a, NonZero(b)
	}
	return a, Norm(b)
}

// operator is what one makes of intervals, and whether no result wraps; and of classes, if that is known.
type operator struct {
	sides
	intervals func(a, b api.Ival) (results api.Ival, exact bool)
	classes   func(c, d api.Cong, exact bool) api.Cong
}

// find is the row of op; false: it makes no numbers of numbers.
func find(op api.Op) (operator, bool) {
	for _, row := range [...]operator{
		{sides{op: api.OpNeg, alone: true}, negIval, negCong},
		{sides{op: api.OpAdd}, ival.Add, cong.Add},
		{sides{op: api.OpSub}, ival.Sub, cong.Sub},
		{sides{op: api.OpMul}, ival.Mul, cong.Mul},
		{sides{op: api.OpDiv, divides: true}, ival.Div, divCong},
		{sides{op: api.OpRem, divides: true}, ival.Rem, remCong},
	} {
		if row.op == op {
			return row, true
		}
	}
	return operator{}, false
}

// The operations that take less than the table's row hands them.

func negIval(a, _ api.Ival) (api.Ival, bool) { return ival.Neg(a) }

func negCong(c, _ api.Cong, exact bool) api.Cong { return cong.Neg(c, exact) }

func divCong(c, d api.Cong, _ bool) api.Cong { return cong.Div(c, d) }

func remCong(c, d api.Cong, _ bool) api.Cong { return cong.Rem(c, d) }
