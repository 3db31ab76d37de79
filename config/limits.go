package config

import "winnow/api"

// limit is what a field of a configuration is held to, and what tells that it isn't.
type limit struct {
	code api.Errno
	kept func(c api.Config) bool
}

// limits stand in the order in which they are asked.
func limits() [9]limit {
	return [...]limit{
		{api.ErrHist, func(c api.Config) bool { return within(c.Hist, 0, api.MaxHist) }},
		{api.ErrUnroll, func(c api.Config) bool { return within(c.Unroll, 0, api.MaxUnroll) }},
		{api.ErrCap, func(c api.Config) bool { return within(c.Cap, 1, api.MaxCap) }},
		{api.ErrDelay, func(c api.Config) bool { return within(c.Delay, 0, api.MaxDelay) }},
		{api.ErrNarrow, func(c api.Config) bool { return within(c.Narrow, 0, api.MaxNarrow) }},
		{api.ErrRounds, func(c api.Config) bool { return within(c.Rounds, 0, api.MaxRounds) }},
		{api.ErrThresh, func(c api.Config) bool { return len(c.Thresholds) <= api.MaxThresh && rise(c.Thresholds) }},
		{api.ErrFuel, func(c api.Config) bool { return within(c.Fuel, 0, api.MaxFuel) }},
		{api.ErrTries, func(c api.Config) bool { return within(c.Tries, 0, api.MaxTries) }},
	}
}

// refusal is the code of the first limit that a configuration doesn't keep; OK: it keeps all.
func refusal(c api.Config) api.Errno {
	for _, l := range limits() {
		if !l.kept(c) {
			return l.code
		}
	}
	return api.OK
}

func within(v, least, most int) bool { return least <= v && v <= most }

// rise tells whether each number is above the one ahead.
func rise(list []int64) bool {
	for i := 1; i < len(list); i++ {
		if list[i] <= list[i-1] {
			return false
		}
	}
	return true
}
