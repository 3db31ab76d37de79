package inv

import (
	"cmp"
	"math"
	"math/bits"

	"winnow/api"
	"winnow/num"
	"winnow/word"
)

// whole is the whole number high times 2^64 and low: room enough for a product of two numbers and what is put to it.
type whole struct {
	high int64
	low  uint64
}

func number(v int64) whole { return whole{v >> 63, uint64(v)} }

func product(x, y int64) whole {
	high, low := word.Wide(x, y)
	return whole{high, low}
}

func (w whole) plus(v int64) whole {
	low, carry := bits.Add64(w.low, uint64(v), 0)
	return whole{w.high + v>>63 + int64(carry), low}
}

func (w whole) compare(v whole) int {
	return cmp.Or(cmp.Compare(w.high, v.high), cmp.Compare(w.low, v.low))
}

// fits tells whether w is a number.
func (w whole) fits() bool { return w == number(int64(w.low)) }

// products are those of the least and the greatest of a with those of b.
func products(a, b api.Num) []whole {
	return []whole{product(a.I.Lo, b.I.Lo), product(a.I.Lo, b.I.Hi), product(a.I.Hi, b.I.Lo), product(a.I.Hi, b.I.Hi)}
}

// clipped is the numbers from one whole number to another.
func clipped(least, greatest whole) api.Num {
	first, last := number(math.MinInt64), number(math.MaxInt64)
	if least.compare(last) > 0 || greatest.compare(first) < 0 {
		return num.Bot()
	}
	if least.compare(first) < 0 {
		least = first
	}
	if greatest.compare(last) > 0 {
		greatest = last
	}
	return num.Range(int64(least.low), int64(greatest.low))
}

func from(w whole) api.Num { return clipped(w, number(math.MaxInt64)) }

func upTo(w whole) api.Num { return clipped(number(math.MinInt64), w) }

// distance is that from 0; of the least number it is no int64.
func distance(v int64) uint64 {
	if v < 0 {
		return -uint64(v)
	}
	return uint64(v)
}
