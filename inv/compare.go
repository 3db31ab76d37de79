package inv

import (
	"winnow/api"
	"winnow/num"
)

// comparing is what tells the two sides, a and b, if the comparison holds of them; nil, if op is none.
func comparing(op api.Op, a, b api.Num) operands {
	switch op {
	case api.OpLt:
		return func() (api.Num, api.Num) { return below(a, b.I.Hi), above(b, a.I.Lo) }
	case api.OpLe:
		return func() (api.Num, api.Num) {
			return num.Meet(a, upTo(number(b.I.Hi))), num.Meet(b, from(number(a.I.Lo)))
		}
	case api.OpGt:
		return about(comparing(api.OpLt, b, a))
	case api.OpGe:
		return about(comparing(api.OpLe, b, a))
	case api.OpEq:
		return func() (api.Num, api.Num) {
			both := num.Meet(a, b)
			return both, both
		}
	case api.OpNe:
		return func() (api.Num, api.Num) { return unlike(a, b), unlike(b, a) }
	}
	return nil
}

// about tells the two the other way about.
func about(tell operands) operands {
	return func() (api.Num, api.Num) {
		left, right := tell()
		return right, left
	}
}

// below is a's numbers below v.
func below(a api.Num, v int64) api.Num { return num.Meet(a, upTo(number(v).plus(-1))) }

// above is a's numbers above v.
func above(a api.Num, v int64) api.Num { return num.Meet(a, from(number(v).plus(1))) }

// unlike is a without the one number that other is, where it stands at an end of a: one within can't be told apart.
func unlike(a, other api.Num) api.Num {
	v, ok := single(other)
	if !ok {
		return a
	}
	if a.I.Lo == v {
		a = above(a, v)
	}
	// Of none the ends say nothing, but nothing is left of it either way.
	if a.I.Hi == v {
		a = below(a, v)
	}
	return a
}
