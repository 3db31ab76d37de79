package replay

import (
	"math"

	"winnow/api"
	"winnow/num"
	"winnow/word"
)

// nearest is the number of a (normal, with numbers) that has the least absolute value; of two the one above 0.
func nearest(a api.Num) int64 {
	above := num.Meet(a, num.Range(0, math.MaxInt64))
	below := num.Meet(a, num.Range(math.MinInt64, 0))
	switch {
	case below.Bot:
		return above.I.Lo
	case above.Bot:
		return below.I.Hi
	}
	// Absolute values are held against each other as bits, since MinInt's is no int64.
	if uint64(above.I.Lo) <= uint64(word.Neg(below.I.Hi)) {
		return above.I.Lo
	}
	return below.I.Hi
}

// fromMiddle is the least number of a (normal, with numbers) from the middle on.
func fromMiddle(a api.Num) int64 {
	// The difference has wrapped where it is no int64, but its bits are right, and its half is an int64.
	half := uint64(word.Sub(a.I.Hi, a.I.Lo)) / 2
	middle := word.Add(a.I.Lo, int64(half))
	return num.Meet(a, num.Range(middle, a.I.Hi)).I.Lo
}
