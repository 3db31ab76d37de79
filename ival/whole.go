package ival

import (
	"math"
	"math/bits"

	"winnow/api"
	"winnow/word"
)

// whole is the whole number turns times 2^64 and value: value is what it wraps to, and it wraps if turns isn't 0.
type whole struct {
	turns, value int64
}

// halves is the whole number hi times 2^64 and lo.
func halves(hi int64, lo uint64) whole {
	// As an int64, a lower half from 2^63 on says 2^64 less, which is one turn more.
	return whole{turns: hi + int64(lo>>63), value: int64(lo)}
}

func sum(x, y int64) whole {
	lo, carry := bits.Add64(uint64(x), uint64(y), 0)
	return halves(x>>63+y>>63+int64(carry), lo)
}

func difference(x, y int64) whole {
	lo, borrow := bits.Sub64(uint64(x), uint64(y), 0)
	return halves(x>>63-y>>63-int64(borrow), lo)
}

func product(x, y int64) whole { return halves(word.Wide(x, y)) }

// quotient is of y other than 0.
func quotient(x, y int64) whole {
	value, _ := word.Div(x, y)
	if x == math.MinInt64 && y == -1 {
		return whole{turns: 1, value: value}
	}
	return whole{value: value}
}

func (w whole) less(v whole) bool {
	return w.turns < v.turns || w.turns == v.turns && w.value < v.value
}

// span is the ends of some whole numbers.
type span struct {
	least, greatest whole
}

func (s span) with(w whole) span {
	if w.less(s.least) {
		s.least = w
	}
	if s.greatest.less(w) {
		s.greatest = w
	}
	return s
}

// through makes of an operation on numbers the span of its results of two intervals that aren't none. While the other operand stays, the operation must rise or fall all the way, so that its ends lie at the corners.
func through(operation func(x, y int64) whole) func(a, b api.Ival) span {
	return func(a, b api.Ival) span {
		corners := [4][2]int64{{a.Lo, b.Lo}, {a.Lo, b.Hi}, {a.Hi, b.Lo}, {a.Hi, b.Hi}}
		first := operation(a.Lo, b.Lo)
		ends := span{least: first, greatest: first}
		for _, corner := range corners {
			ends = ends.with(operation(corner[0], corner[1]))
		}
		return ends
	}
}

// exact tells whether no number of the span wraps.
func (s span) exact() bool { return s.least.turns == 0 && s.greatest.turns == 0 }

// hull is that of what the numbers wrap to. Where they stand in unlike turns, they must have no gaps: then the greatest number and the least one behind it are among them.
func (s span) hull() api.Ival {
	if s.least.turns != s.greatest.turns {
		return all()
	}
	return api.Ival{Lo: s.least.value, Hi: s.greatest.value}
}
