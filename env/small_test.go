package env

import (
	"math/rand"
	"testing"

	"winnow/api"
)

// smallNums are all Nums of numbers from 0 to 3 with small classes, most of them otherwise than in their normal form, and some without numbers.
func smallNums() []api.Num {
	out := []api.Num{no(), {Bot: true, I: api.Ival{Lo: 0, Hi: 3}, C: api.Cong{M: 1}}}
	for lo := range int64(4) {
		for hi := range int64(4) {
			for m := range uint64(4) {
				for r := range uint64(4) {
					out = append(out, nu(lo, hi, m, r))
				}
			}
		}
	}
	return out
}

// smallStores are all stores of two scalars and one array of two elements, of numbers from -1 to 4.
func smallStores() []api.Store {
	var out []api.Store
	for i := range int64(6 * 6 * 6 * 6) {
		out = append(out, storeOf([]int64{i%6 - 1, i/6%6 - 1}, []int64{i/36%6 - 1, i/216%6 - 1}))
	}
	return out
}

// in2 tells whether v is a number of a, by the words alone.
func in2(a api.Num, v int64) bool {
	if a.Bot || v < a.I.Lo || v > a.I.Hi {
		return false
	}
	if a.C.M == 0 {
		return uint64(v) == a.C.R
	}
	return v%int64(a.C.M) == int64(a.C.R%a.C.M)
}

// has2 tells whether s is a store of e, by the words alone.
func has2(e api.Env, s api.Store) bool {
	return !e.Dead && in2(e.Vars[0], s.Vars[0]) && in2(e.Vars[1], s.Vars[1]) && in2(e.Arrays[0], s.Arrays[0][0]) && in2(e.Arrays[0], s.Arrays[0][1])
}

// P15.2 to P15.5: Envs as sets of stores, by counting.
func TestSmallEnvsAsSets(t *testing.T) {
	m := rand.New(rand.NewSource(151))
	nums, stores := smallNums(), smallStores()
	num := func() api.Num { return nums[m.Intn(len(nums))] }
	env := func() api.Env {
		e := both(list(num(), num()), list(num()))
		for range 3 {
			if Norm(e).Dead {
				e = both(list(num(), num()), list(num()))
			}
		}
		return e
	}
	below := 0
	for range 2500 {
		e, f := env(), env()
		if m.Intn(3) == 0 {
			f = Join(e, f)
		}
		form, join, meet, wide := Norm(e), Join(e, f), Meet(e, f), Widen(e, f, []int64{2})
		some, sub, common := false, true, false
		for _, s := range stores {
			ine, inf := has2(e, s), has2(f, s)
			some, sub, common = some || ine, sub && (!ine || inf), common || ine && inf
			if Has(e, s) != ine || Has(form, s) != ine {
				t.Fatalf("P15.2, P15.3: Has(%v, %v) is %v, Has(%v) %v", e, s, Has(e, s), form, Has(form, s))
			}
			if Has(meet, s) != (ine && inf) {
				t.Fatalf("P15.5: Meet(%v, %v) = %v: the store %v", e, f, meet, s)
			}
			if (ine || inf) && (!Has(join, s) || !Has(wide, s)) {
				t.Fatalf("P15.5: %v has been lost: Join(%v, %v) = %v, Widen = %v", s, e, f, join, wide)
			}
		}
		if form.Dead == some || meet.Dead == common {
			t.Fatalf("P15.2, P15.5: Norm(%v) = %v, Meet(%v) = %v", e, form, f, meet)
		}
		if Leq(e, f) != sub {
			t.Fatalf("P15.4: Leq(%v, %v) = %v", e, f, !sub)
		}
		if Same(e, f) != (sub && Leq(f, e)) {
			t.Fatalf("P15.4: Same(%v, %v) = %v", e, f, Same(e, f))
		}
		if sub && some {
			below++
		}
	}
	if below < 200 {
		t.Errorf("only %d were below the other one", below)
	}
}

// P15.5: Join is below every Env that has all stores of both.
func TestJoinIsTheLeast(t *testing.T) {
	m := rand.New(rand.NewSource(152))
	above := 0
	for range 20000 {
		vars, lists := m.Intn(3), m.Intn(3)
		e, f, g := envByChance(m, vars, lists), envByChance(m, vars, lists), envByChance(m, vars, lists)
		if m.Intn(2) == 0 {
			g = Join(g, Join(e, f))
		}
		if Leq(e, g) && Leq(f, g) {
			above++
			if !Leq(Join(e, f), g) {
				t.Fatalf("P15.5: Join(%v, %v) isn't below %v", e, f, g)
			}
		}
	}
	if above < 5000 {
		t.Errorf("only %d were above both", above)
	}
}
