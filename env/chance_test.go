package env

import (
	"math/rand"
	"slices"
	"testing"

	"winnow/api"
	"winnow/num"
)

// numberByChance is small, near a power of two, or of any size.
func numberByChance(m *rand.Rand) int64 {
	switch m.Intn(3) {
	case 0:
		return int64(m.Intn(41) - 20)
	case 1:
		return 1<<m.Intn(64) + int64(m.Intn(7)-3)
	}
	return int64(m.Uint64()) >> m.Intn(64)
}

// numByChance is a Num as it may be handed in.
func numByChance(m *rand.Rand) api.Num {
	lo, hi := numberByChance(m), numberByChance(m)
	if lo > hi && m.Intn(12) > 0 {
		lo, hi = hi, lo
	}
	a := nu(lo, hi, uint64(numberByChance(m)), uint64(numberByChance(m)))
	switch m.Intn(5) {
	case 0:
		a.C = api.Cong{R: uint64(lo)}
	case 1, 2:
		a.C = api.Cong{M: 1}
	case 3:
		a.C = api.Cong{M: 1 << m.Intn(4) * []uint64{1, 3}[m.Intn(2)], R: uint64(m.Intn(40))}
	}
	a.Bot = m.Intn(30) == 0
	return a
}

func envByChance(m *rand.Rand, vars, lists int) api.Env {
	e := api.Env{Dead: m.Intn(20) == 0}
	for range vars {
		e.Vars = append(e.Vars, numByChance(m))
	}
	for range lists {
		e.Arrays = append(e.Arrays, numByChance(m))
	}
	return e
}

func thresholdsByChance(m *rand.Rand) []int64 {
	var out []int64
	for range m.Intn(7) {
		out = append(out, numberByChance(m))
	}
	if len(out) > 1 && m.Intn(3) == 0 {
		out[0] = out[len(out)-1]
	}
	return out
}

// A second saying of the chapter's words: an Env is one flat list with a mark at each place, the scalars' first.
type place struct {
	array bool
	a     api.Num
}

// flat is e's list; false, if e has no store.
func flat(e api.Env) ([]place, bool) {
	out := []place{}
	for _, a := range e.Vars {
		out = append(out, place{false, num.Norm(a)})
	}
	for _, a := range e.Arrays {
		out = append(out, place{true, num.Norm(a)})
	}
	some := !e.Dead
	for _, p := range out {
		some = some && p.a != num.Bot()
	}
	return out, some
}

// unflat is the Env of a list, dead if one of its Nums is none.
func unflat(l []place) api.Env {
	var e api.Env
	for _, p := range l {
		if p.a == num.Bot() {
			return lost()
		}
		if p.array {
			e.Arrays = append(e.Arrays, p.a)
		} else {
			e.Vars = append(e.Vars, p.a)
		}
	}
	return e
}

func norm2(e api.Env) api.Env {
	if l, some := flat(e); some {
		return unflat(l)
	}
	return lost()
}

// alike2 tells whether two lists have their marks alike.
func alike2(l, k []place) bool {
	return slices.EqualFunc(l, k, func(p, q place) bool { return p.array == q.array })
}

func join2(e, f api.Env, unite func(a, b api.Num) api.Num) api.Env {
	l, some := flat(e)
	k, more := flat(f)
	switch {
	case !some:
		return norm2(f)
	case !more:
		return norm2(e)
	case !alike2(l, k):
		return lost()
	}
	for i := range l {
		l[i].a = unite(l[i].a, k[i].a)
	}
	return unflat(l)
}

func meet2(e, f api.Env) api.Env {
	_, some := flat(e)
	if _, more := flat(f); !some || !more {
		return lost()
	}
	return join2(e, f, num.Meet)
}

func leq2(e, f api.Env) bool {
	l, some := flat(e)
	k, more := flat(f)
	if !some || !more {
		return !some
	}
	return alike2(l, k) && equal(join2(e, f, num.Join), norm2(f))
}

func set2(e api.Env, array bool, i int, a api.Num) api.Env {
	l, some := flat(e)
	if !some {
		return lost()
	}
	at := 0
	for j := range l {
		if l[j].array == array {
			if at == i {
				l[j].a = num.Norm(a)
			}
			at++
		}
	}
	return unflat(l)
}

func hasStore2(e api.Env, s api.Store) bool {
	l, some := flat(e)
	var k []place
	for range s.Vars {
		k = append(k, place{})
	}
	for range s.Arrays {
		k = append(k, place{array: true})
	}
	if !some || !alike2(l, k) {
		return false
	}
	for i, p := range l {
		var values []int64
		if p.array {
			values = s.Arrays[i-len(s.Vars)]
		} else {
			values = s.Vars[i : i+1]
		}
		for _, v := range values {
			if !num.Leq(num.Const(v), p.a) {
				return false
			}
		}
	}
	return true
}

// storeByChance is mostly one of e, or nearly so.
func storeByChance(m *rand.Rand, e api.Env) api.Store {
	value := func(a api.Num) int64 {
		form := num.Norm(a)
		switch m.Intn(12) {
		case 0:
			return numberByChance(m)
		case 1:
			return form.I.Lo - 1
		case 2:
			return form.I.Hi + 1
		case 3, 4, 5, 6:
			return form.I.Hi
		}
		return form.I.Lo
	}
	var s api.Store
	for _, a := range e.Vars {
		s.Vars = append(s.Vars, value(a))
	}
	for _, a := range e.Arrays {
		var l []int64
		for range m.Intn(3) {
			l = append(l, value(a))
		}
		s.Arrays = append(s.Arrays, l)
	}
	switch m.Intn(12) {
	case 0:
		s.Vars = append(s.Vars, 0)
	case 1:
		s.Arrays = append(s.Arrays, nil)
	case 2:
		s.Vars = s.Vars[:len(s.Vars)/2]
	case 3:
		s.Arrays = s.Arrays[:len(s.Arrays)/2]
	}
	return s
}

// hold holds all calls of e and f against the second saying.
func hold(t *testing.T, m *rand.Rand, e, f api.Env) {
	t.Helper()
	thresholds := thresholdsByChance(m)
	widen := func(a, b api.Num) api.Num { return num.Widen(a, b, thresholds) }
	a, i := numByChance(m), m.Intn(6)-1
	want(t, "P15.2", Norm(e), norm2(e), "Norm(%v)", e)
	want(t, "P15.5", Join(e, f), join2(e, f, num.Join), "Join(%v, %v)", e, f)
	want(t, "P15.5", Widen(e, f, thresholds), join2(e, f, widen), "Widen(%v, %v, %v)", e, f, thresholds)
	want(t, "P15.5", Meet(e, f), meet2(e, f), "Meet(%v, %v)", e, f)
	want(t, "P15.6", SetVar(e, i, a), set2(e, false, i, a), "SetVar(%v, %d, %v)", e, i, a)
	want(t, "P15.6", SetArray(e, i, a), set2(e, true, i, a), "SetArray(%v, %d, %v)", e, i, a)
	if got := Leq(e, f); got != leq2(e, f) {
		t.Errorf("P15.4: Leq(%v, %v) = %v", e, f, got)
	}
	if got := Same(e, f); got != equal(norm2(e), norm2(f)) {
		t.Errorf("P15.4: Same(%v, %v) = %v", e, f, got)
	}
	if s := storeByChance(m, e); Has(e, s) != hasStore2(e, s) {
		t.Errorf("P15.3: Has(%v, %v) = %v", e, s, Has(e, s))
	}
}

// related is e with one of its Nums another, or in another form, or another Env.
func related(m *rand.Rand, e api.Env) api.Env {
	switch m.Intn(6) {
	case 0:
		return SetVar(e, m.Intn(3), numByChance(m))
	case 1:
		return SetArray(e, m.Intn(3), numByChance(m))
	case 2:
		return Norm(e)
	case 3:
		return Join(e, envByChance(m, len(e.Vars), len(e.Arrays)))
	case 4:
		return envByChance(m, m.Intn(4), m.Intn(4))
	}
	return envByChance(m, len(e.Vars), len(e.Arrays))
}

func TestByChance(t *testing.T) {
	m := rand.New(rand.NewSource(153))
	for range 40000 {
		e := envByChance(m, m.Intn(4), m.Intn(4))
		f := related(m, e)
		hold(t, m, e, f)
		if t.Failed() {
			return
		}
	}
}

func FuzzAll(f *testing.F) {
	for seed := range int64(8) {
		f.Add(seed, uint8(2), uint8(1), int64(-3), int64(9), uint64(2), uint64(1), false, false)
	}
	f.Fuzz(func(t *testing.T, seed int64, vars, lists uint8, lo, hi int64, c, r uint64, bot, dead bool) {
		m := rand.New(rand.NewSource(seed))
		e := envByChance(m, int(vars%6), int(lists%6))
		a := nu(lo, hi, c, r)
		a.Bot, e.Dead = bot, dead
		if len(e.Vars) > 0 {
			e.Vars[m.Intn(len(e.Vars))] = a
		}
		if len(e.Arrays) > 0 {
			e.Arrays[m.Intn(len(e.Arrays))] = a
		}
		f := related(m, e)
		hold(t, m, e, f)
		hold(t, m, f, e)
	})
}
