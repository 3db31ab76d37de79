package cong

import (
	"math"

	"winnow/api"
	"winnow/word"
)

// Up is the least number of c from v on; false: there is none.
func Up(c api.Cong, v int64) (int64, bool) {
	ahead := func(from, to api.Cong) api.Cong { return Sub(to, from, true) }
	return next(ahead, word.Add, math.MaxInt64)(c, v)
}

// Down is the greatest number of c up to v; false: there is none.
func Down(c api.Cong, v int64) (int64, bool) {
	behind := func(from, to api.Cong) api.Cong { return Sub(from, to, true) }
	return next(behind, word.Sub, math.MinInt64)(c, v)
}

// next makes the step from a number to a class's next one in a direction: away is the class of the ways from numbers of one class to those of another, step goes a way, and end is the last number.
func next(away func(from, to api.Cong) api.Cong, step func(v, way int64) int64, end int64) func(c api.Cong, v int64) (int64, bool) {
	return func(c api.Cong, v int64) (int64, bool) {
		from := Const(v)
		way := away(from, c).R
		// The way to one number that lies in the other direction has wrapped: it is beyond the end, too.
		if way > away(from, Const(end)).R {
			return 0, false
		}
		return step(v, int64(way)), true
	}
}
