package config

import (
	"errors"
	"math"
	"math/bits"
	"testing"

	"winnow/api"
)

// field is a number of a configuration, and what it has to be.
type field struct {
	name        string
	code        api.Errno
	least, most int
	of          func(c *api.Config) *int
}

// fields are all but the thresholds, in the order in which they are asked.
func fields() []field {
	return []field{
		{"Hist", api.ErrHist, 0, 3, func(c *api.Config) *int { return &c.Hist }},
		{"Unroll", api.ErrUnroll, 0, 3, func(c *api.Config) *int { return &c.Unroll }},
		{"Cap", api.ErrCap, 1, 6, func(c *api.Config) *int { return &c.Cap }},
		{"Delay", api.ErrDelay, 0, 6, func(c *api.Config) *int { return &c.Delay }},
		{"Narrow", api.ErrNarrow, 0, 3, func(c *api.Config) *int { return &c.Narrow }},
		{"Rounds", api.ErrRounds, 0, 3, func(c *api.Config) *int { return &c.Rounds }},
		{"Fuel", api.ErrFuel, 0, 5000, func(c *api.Config) *int { return &c.Fuel }},
		{"Tries", api.ErrTries, 0, 4, func(c *api.Config) *int { return &c.Tries }},
	}
}

func least() api.Config { return api.Config{Cap: 1} }

func greatest() api.Config {
	return api.Config{Hist: 3, Unroll: 3, Cap: 6, Delay: 6, Narrow: 3, Rounds: 3, Thresholds: []int64{-3, -2, -1, 0, 1, 2}, Fuel: 5000, Tries: 4}
}

func middle() api.Config {
	return api.Config{Hist: 1, Unroll: 2, Cap: 3, Delay: 4, Narrow: 1, Rounds: 2, Thresholds: []int64{-7, 9}, Fuel: 77, Tries: 3}
}

// right are configurations that are taken.
func right() []api.Config { return []api.Config{least(), middle(), greatest()} }

func long(numbers ...int64) []int64 { return numbers }

// wrongThresholds are lists that may not be.
func wrongThresholds() [][]int64 {
	return [][]int64{
		long(1, 1), long(2, 1), long(0, 0), long(math.MaxInt64, math.MinInt64), long(math.MinInt64, math.MinInt64), long(math.MaxInt64, math.MaxInt64),
		long(0, math.MinInt64), long(math.MaxInt64, 0), long(-1, -2), long(-2, -2, 5),
		long(1, 2, 3, 4, 5, 6, 7), long(7, 6, 5, 4, 3, 2, 1), make([]int64, 7), make([]int64, 100),
	}
}

// wantOK holds that a configuration is taken.
func wantOK(t *testing.T, c api.Config) {
	t.Helper()
	if err := Check(c); err != nil {
		t.Errorf("P19.1: Check(%+v) = %v, want nil", c, err)
	}
}

// wantRefused holds a refusal: its number, its place, and what it wraps.
func wantRefused(t *testing.T, c api.Config, code api.Errno) {
	t.Helper()
	err := Check(c)
	fault, ok := err.(*api.Fault)
	if !ok || fault == nil {
		t.Errorf("P19.1: Check(%+v) = %v, want a Fault of %v", c, err, code)
		return
	}
	if *fault != (api.Fault{Code: code, At: -1, Of: api.ErrConfig}) {
		t.Errorf("P19.1: Check(%+v) is the Fault %+v, want %v at -1", c, *fault, code)
	}
	if !errors.Is(err, api.ErrConfig) || !errors.Is(err, code) || errors.Is(err, api.ErrReject) {
		t.Errorf("P19.1: Check(%+v) = %v wraps other errors", c, err)
	}
	var found *api.Fault
	var number api.Errno
	if !errors.As(err, &found) || found != fault || !errors.As(err, &number) || number != code {
		t.Errorf("P19.1: errors.As finds %v and %v in Check(%+v)", found, number, c)
	}
}

// The chapter's examples of Check.
func TestExamplesOfCheck(t *testing.T) {
	with := func(thresholds ...int64) api.Config { return api.Config{Cap: 1, Thresholds: thresholds} }
	wantRefused(t, api.Config{}, api.ErrCap)
	wantOK(t, api.Config{Cap: 1})
	wantRefused(t, api.Config{Cap: 7, Delay: -1}, api.ErrCap)
	wantRefused(t, with(1, 1), api.ErrThresh)
	wantRefused(t, with(2, 1), api.ErrThresh)
	wantOK(t, with())
	wantOK(t, with(-5, 0, 3))
	wantRefused(t, with(1, 2, 3, 4, 5, 6, 7), api.ErrThresh)
	wantRefused(t, api.Config{Cap: 1, Fuel: 5001}, api.ErrFuel)
}

// P19.1: the numbers of the refusals and the limits are those that the document writes out.
func TestNumbers(t *testing.T) {
	for i, code := range []api.Errno{api.ErrHist, api.ErrUnroll, api.ErrCap, api.ErrDelay, api.ErrNarrow, api.ErrRounds, api.ErrThresh, api.ErrFuel, api.ErrTries} {
		if code != api.Errno(190+i) {
			t.Errorf("P19.1: the error %d in the order is %v", i, code)
		}
	}
	wantRefused(t, api.Config{Hist: -1}, 190)
	wantRefused(t, api.Config{Cap: 1, Tries: 5}, 198)
}

// P19.1: a nil error is nil itself: a Fault's nil pointer in it would be none.
func TestTakenIsNil(t *testing.T) {
	for _, c := range right() {
		wantOK(t, c)
	}
}

// P19.1: each field alone, at its ends and beyond them.
func TestEachField(t *testing.T) {
	for _, base := range right() {
		for _, f := range fields() {
			at := func(v int) api.Config {
				c := base
				*f.of(&c) = v
				return c
			}
			for v := f.least; v <= f.most; v++ {
				wantOK(t, at(v))
			}
			for _, v := range []int{f.least - 1, f.most + 1, f.least - 2, f.most + 2, math.MinInt, math.MaxInt, math.MinInt + 1, math.MaxInt - 1, math.MinInt32, math.MaxInt32, 1 << 32, -1 << 32} {
				wantRefused(t, at(v), f.code)
			}
		}
	}
}

// P19.1: thresholds that rise: none, some, as many as there may be, and the ends of the numbers.
func TestThresholdsThatRise(t *testing.T) {
	for _, base := range right() {
		for _, list := range [][]int64{
			nil, {}, make([]int64, 0, 9), {0}, {-1}, {math.MinInt64}, {math.MaxInt64},
			{math.MinInt64, math.MaxInt64}, {math.MinInt64, math.MinInt64 + 1}, {math.MaxInt64 - 1, math.MaxInt64}, {math.MinInt64, 0, math.MaxInt64},
			{-1, 0}, {0, 1}, {-5, 0, 3}, {1, 2, 3, 4, 5, 6}, {-6, -5, -4, -3, -2, -1}, {math.MinInt64, -9, -1, 7, 1 << 40, math.MaxInt64},
		} {
			c := base
			c.Thresholds = list
			wantOK(t, c)
		}
	}
}

// P19.1: lists of each length, with two alike and one that falls at each place; and too many that rise.
func TestThresholdsThatDontRise(t *testing.T) {
	refuse := func(list []int64) {
		t.Helper()
		for _, c := range right() {
			c.Thresholds = list
			wantRefused(t, c, api.ErrThresh)
		}
	}
	for _, list := range wrongThresholds() {
		refuse(list)
	}
	for number := 1; number <= 9; number++ {
		rising := make([]int64, number)
		for i := range rising {
			rising[i] = int64(10*i - 30)
		}
		if number > 6 {
			refuse(rising)
		} else {
			c := least()
			c.Thresholds = rising
			wantOK(t, c)
		}
		for i := 1; i < number; i++ {
			for _, v := range []int64{rising[i-1], rising[i-1] - 1, math.MinInt64, rising[0]} {
				wrong := append(append(append([]int64{}, rising[:i]...), v), rising[i+1:]...)
				refuse(wrong)
			}
		}
	}
}

// P19.1: room behind the thresholds isn't looked at.
func TestRoomBehindThresholds(t *testing.T) {
	room := long(1, 2, 3, 0, 0, 9, 8, 7)
	for number := range room {
		c := api.Config{Cap: 1, Thresholds: room[:number]}
		if number <= 3 {
			wantOK(t, c)
		} else {
			wantRefused(t, c, api.ErrThresh)
		}
	}
}

// wrong is a way in which a configuration is spoilt; place is where it stands in the order.
type wrong struct {
	code  api.Errno
	place int
	spoil func(c *api.Config)
}

// wrongs are those of all fields, of each below its least number and above its greatest one.
func wrongs() []wrong {
	var all []wrong
	put := func(code api.Errno, spoil func(c *api.Config)) {
		all = append(all, wrong{code, int(code) - 190, spoil})
	}
	for _, f := range fields() {
		for _, v := range []int{f.least - 1, f.most + 1, math.MinInt, math.MaxInt} {
			put(f.code, func(c *api.Config) { *f.of(c) = v })
		}
	}
	for _, list := range [][]int64{long(1, 1), long(2, 1), long(1, 2, 3, 4, 5, 6, 7)} {
		put(api.ErrThresh, func(c *api.Config) { c.Thresholds = list })
	}
	return all
}

// P19.1: of two fields that are wrong the first in the order is told.
func TestTwoFieldsThatAreWrong(t *testing.T) {
	pairs := map[[2]int]int{}
	for _, a := range wrongs() {
		for _, b := range wrongs() {
			for _, c := range right() {
				a.spoil(&c)
				b.spoil(&c)
				wantRefused(t, c, min(a.code, b.code))
			}
			pairs[[2]int{a.place, b.place}]++
		}
	}
	if len(pairs) != 81 {
		t.Errorf("there were %d pairs of fields", len(pairs))
	}
}

// P19.1: any set of fields may be wrong.
func TestManyFieldsThatAreWrong(t *testing.T) {
	var ways [9][]wrong
	for _, w := range wrongs() {
		ways[w.place] = append(ways[w.place], w)
	}
	for set := 1; set < 1<<len(ways); set++ {
		for turn := range 4 {
			c := middle()
			for place, list := range ways {
				if set>>place&1 == 1 {
					list[turn%len(list)].spoil(&c)
				}
			}
			wantRefused(t, c, api.ErrHist+api.Errno(bits.TrailingZeros(uint(set))))
		}
	}
}

// P19.1: what a field is doesn't hang on the others, as long as all are right.
func TestAllEnds(t *testing.T) {
	for _, c := range ends() {
		wantOK(t, c)
	}
}

// ends are all configurations of which each field is at its least or greatest number, and of thresholds none or as many as there may be.
func ends() []api.Config {
	list := []api.Config{{}}
	for _, f := range fields() {
		var more []api.Config
		for _, c := range list {
			for _, v := range []int{f.least, f.most} {
				*f.of(&c) = v
				more = append(more, c)
			}
		}
		list = more
	}
	for _, c := range list {
		c.Thresholds = long(math.MinInt64, -1, 0, 1, 1<<40, math.MaxInt64)
		list = append(list, c)
	}
	return list
}
