package word

import (
	"math"
	"strconv"
	"strings"

	"winnow/api"
)

// refusal is why a text isn't taken, and where.
type refusal struct {
	code api.Errno
	at   int
}

// Parse is the number that a text says in decimal; with ErrNumber the place of the first byte that can't stand there.
func Parse(s string) (v int64, code api.Errno, at int) {
	var no refusal
	// All refusals leave by this one door, so that nothing of a number that was begun goes out beside them.
	defer func() {
		if no.code != api.OK {
			v, code, at = 0, no.code, no.at
		}
	}()
	digits, negative := strings.CutPrefix(s, "-")
	if run := digitRun(digits); run == 0 || run < len(digits) {
		no = refusal{api.ErrNumber, len(s) - len(digits) + run}
		return
	}
	size, ok := magnitude(digits, farthest(negative))
	if !ok {
		no = refusal{api.ErrBig, 0}
		return
	}
	v = int64(size)
	if negative {
		v = Neg(v)
	}
	return
}

// digitRun is how many digits stand at the front of a text.
func digitRun(s string) int {
	for i := 0; i < len(s); i++ {
		if s[i] < '0' || s[i] > '9' {
			return i
		}
	}
	return len(s)
}

// farthest is the greatest absolute value on one side of 0: below it the numbers reach one further.
func farthest(negative bool) uint64 {
	if negative {
		return math.MaxInt64 + 1
	}
	return math.MaxInt64
}

// magnitude is what digits say; false: more than most.
func magnitude(digits string, most uint64) (uint64, bool) {
	size := uint64(0)
	for i := 0; i < len(digits); i++ {
		d := uint64(digits[i] - '0')
		// Asked ahead of the step, as what follows it might have wrapped.
		if size > (most-d)/10 {
			return 0, false
		}
		size = size*10 + d
	}
	return size, true
}

// Print is the number in decimal, as Parse reads it.
func Print(v int64) string { return strconv.FormatInt(v, 10) }
