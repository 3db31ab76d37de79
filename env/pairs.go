package env

import (
	"slices"

	"winnow/api"
	"winnow/num"
)

// Leq tells whether all of e's stores are f's.
func Leq(e, f api.Env) bool {
	e, f = Norm(e), Norm(f)
	if e.Dead || f.Dead {
		return e.Dead
	}
	return slices.EqualFunc(e.Vars, f.Vars, num.Leq) && slices.EqualFunc(e.Arrays, f.Arrays, num.Leq)
}

// Same tells whether two Envs have one form.
func Same(e, f api.Env) bool {
	e, f = Norm(e), Norm(f)
	return e.Dead == f.Dead && slices.Equal(e.Vars, f.Vars) && slices.Equal(e.Arrays, f.Arrays)
}

// Join is the least Env that has all stores of both.
func Join(e, f api.Env) api.Env { return together(e, f, num.Join) }

// Widen has all stores of both, and lets a row of widenings come to rest.
func Widen(e, f api.Env, thresholds []int64) api.Env {
	return together(e, f, func(a, b api.Num) api.Num { return num.Widen(a, b, thresholds) })
}

// Meet is the stores that both have.
func Meet(e, f api.Env) api.Env {
	e, f = Norm(e), Norm(f)
	if e.Dead || f.Dead {
		return dead()
	}
	return pairwise(e, f, num.Meet)
}

// together is what unite makes of each two Nums; where one of the Envs has no store, the other one.
func together(e, f api.Env, unite func(a, b api.Num) api.Num) api.Env {
	e, f = Norm(e), Norm(f)
	switch {
	case e.Dead:
		return f
	case f.Dead:
		return e
	}
	return pairwise(e, f, unite)
}

// pairwise is the Env of what put makes of each two Nums of e and f, neither of them dead; the dead Env, if their shapes are unlike.
func pairwise(e, f api.Env, put func(a, b api.Num) api.Num) api.Env {
	if len(e.Vars) != len(f.Vars) || len(e.Arrays) != len(f.Arrays) {
		return dead()
	}
	return made(paired(e.Vars, f.Vars, put), paired(e.Arrays, f.Arrays, put))
}

// paired is a new list of what put makes of each two Nums of two lists of one length.
func paired(list, other []api.Num, put func(a, b api.Num) api.Num) []api.Num {
	out := make([]api.Num, len(list))
	for i, a := range list {
		out[i] = put(a, other[i])
	}
	return out
}
