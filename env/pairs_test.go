package env

import (
	"testing"

	"winnow/api"
)

// shapes are Envs of shapes that are all unlike, none of them dead.
func shapes() []api.Env {
	var out []api.Env
	for vars := range 4 {
		for lists := range 4 {
			var e api.Env
			for i := range vars {
				e.Vars = append(e.Vars, in(0, int64(i)+1))
			}
			for i := range lists {
				e.Arrays = append(e.Arrays, in(0, int64(i)+1))
			}
			out = append(out, e)
		}
	}
	return out
}

// holdOrder holds Leq and Same of two Envs.
func holdOrder(t *testing.T, e, f api.Env, leq, same bool) {
	t.Helper()
	if Leq(e, f) != leq {
		t.Errorf("P15.4: Leq(%v, %v) = %v", e, f, !leq)
	}
	if Same(e, f) != same {
		t.Errorf("P15.4: Same(%v, %v) = %v", e, f, !same)
	}
}

func TestLeqAndSame(t *testing.T) {
	for _, h := range []struct {
		e, f      api.Env
		leq, same bool
	}{
		{of(one(1)), of(in(0, 2)), true, false}, {of(one(1)), of(one(1), one(1)), false, false}, {of(in(0, 2)), of(one(1)), false, false},
		{api.Env{}, api.Env{}, true, true}, {both(list(), nil), both(nil, list()), true, true},
		{of(one(1)), arrays(one(1)), false, false},
		// other forms
		{of(nu(1, 5, 2, 0)), of(nu(2, 4, 2, 0)), true, true}, {of(nu(2, 4, 2, 0)), of(nu(1, 5, 2, 6)), true, true}, {arrays(nu(1, 5, 2, 0)), arrays(in(2, 4)), true, false}, {arrays(in(2, 4)), arrays(nu(1, 5, 2, 0)), false, false}, {of(nu(7, 7, 1, 0)), of(nu(0, 9, 0, 7)), true, true}, {of(api.Num{}), of(one(0)), true, true},
		{of(in(0, 3)), of(in(1, 4)), false, false}, {of(nu(0, 8, 4, 0)), of(nu(0, 8, 2, 0)), true, false}, {of(nu(0, 8, 2, 0)), of(nu(0, 8, 4, 0)), false, false},
	} {
		holdOrder(t, h.e, h.f, h.leq, h.same)
	}
	for _, e := range losts() {
		for _, f := range shapes() {
			holdOrder(t, e, f, true, false)
			holdOrder(t, f, e, false, false)
		}
		for _, f := range losts() {
			holdOrder(t, e, f, true, true)
		}
	}
	for i, e := range shapes() {
		for j, f := range shapes() {
			holdOrder(t, e, f, i == j, i == j)
		}
	}
}

// P15.4: each place has its say.
func TestOneNumAlone(t *testing.T) {
	e := both(list(in(1, 5), in(2, 6), in(3, 7)), list(in(4, 8), in(4, 9)))
	for i := range 5 {
		put := func(a api.Num) api.Env {
			if i < 3 {
				return SetVar(e, i, a)
			}
			return SetArray(e, i-3, a)
		}
		less, more, other := put(one(5)), put(in(-9, 10)), put(in(5, 99))
		holdOrder(t, less, e, true, false)
		holdOrder(t, e, less, false, false)
		holdOrder(t, e, more, true, false)
		holdOrder(t, more, e, false, false)
		holdOrder(t, e, other, false, false)
		holdOrder(t, other, e, false, false)
		want(t, "P15.5", Join(less, e), e, "Join(%v, %v)", less, e)
		want(t, "P15.5", Join(e, more), more, "Join(%v, %v)", e, more)
		want(t, "P15.5", Meet(e, more), e, "Meet(%v, %v)", e, more)
		want(t, "P15.5", Meet(less, e), less, "Meet(%v, %v)", less, e)
		want(t, "P15.5", Widen(e, more, nil), put(all()), "Widen(%v, %v, nil)", e, more)
		want(t, "P15.5", Widen(more, e, nil), more, "Widen(%v, %v, nil)", more, e)
		// One Num alone that is none makes it dead.
		for _, a := range []api.Num{in(10, 20), one(-3), one(maxInt)} {
			want(t, "P15.5", Meet(e, put(a)), lost(), "Meet(%v, %v)", e, put(a))
			want(t, "P15.5", Meet(put(a), e), lost(), "Meet(%v, %v)", put(a), e)
		}
	}
}

func TestJoinAndMeet(t *testing.T) {
	for _, h := range []struct{ e, f, join, meet api.Env }{
		{of(one(1)), of(one(3)), of(nu(1, 3, 2, 1)), lost()}, {lost(), of(one(3)), of(one(3)), lost()}, {of(one(1)), of(one(1), one(2)), lost(), lost()}, {of(in(1, 5)), of(one(6)), of(in(1, 6)), lost()},
		{of(in(1, 5)), of(in(4, 9)), of(in(1, 9)), of(in(4, 5))}, {arrays(in(1, 5)), arrays(in(5, 9)), arrays(in(1, 9)), arrays(one(5))},
		{api.Env{}, api.Env{}, api.Env{}, api.Env{}}, {both(list(), nil), both(nil, list()), api.Env{}, api.Env{}},
		{both(list(one(1), in(0, 3)), list(nu(0, 8, 4, 0))), both(list(one(1), in(2, 9)), list(nu(2, 6, 2, 0))), both(list(one(1), in(0, 9)), list(nu(0, 8, 2, 0))), both(list(one(1), in(2, 3)), list(one(4)))},
		// other forms
		{of(nu(0, 9, 3, 4)), of(nu(1, 1, 1, 0)), of(nu(1, 7, 3, 1)), of(one(1))}, {of(nu(1, 1, 1, 0)), of(nu(0, 9, 3, 4)), of(nu(1, 7, 3, 1)), of(one(1))}, {arrays(api.Num{}), arrays(nu(-1, 9, 2, 0)), arrays(nu(0, 8, 2, 0)), arrays(one(0))},
	} {
		want(t, "P15.5", Join(h.e, h.f), h.join, "Join(%v, %v)", h.e, h.f)
		want(t, "P15.5", Meet(h.e, h.f), h.meet, "Meet(%v, %v)", h.e, h.f)
	}
}

func TestWiden(t *testing.T) {
	for _, h := range []struct {
		e, f       api.Env
		thresholds []int64
		want       api.Env
	}{
		{of(in(0, 1)), of(in(0, 2)), []int64{10}, of(in(0, 10))}, {of(in(0, 1)), of(in(0, 2)), nil, of(in(0, maxInt))}, {of(in(0, 1)), of(in(0, 2)), []int64{}, of(in(0, maxInt))}, {of(in(0, 1)), of(in(-1, 1)), nil, of(in(minInt, 1))},
		{arrays(in(0, 1)), arrays(in(0, 2)), []int64{10}, arrays(in(0, 10))}, {arrays(in(0, 1)), arrays(in(0, 2)), nil, arrays(in(0, maxInt))},
		// unsorted, and with doubles
		{of(in(0, 1), in(0, 1)), of(in(0, 2), in(-3, 9)), []int64{10, 5, 10, -7, 5, 3, -7, -4}, of(in(0, 3), in(-4, 10))},
		{both(list(in(0, 1)), list(in(0, 1))), both(list(in(0, 4)), list(in(-5, 0))), []int64{9, -9, 4, 4, -5}, both(list(in(0, 4)), list(in(-5, 1)))},
		// which one stands first tells
		{of(in(0, 2)), of(in(0, 1)), []int64{10}, of(in(0, 2))}, {of(nu(0, 2, 2, 0)), of(nu(0, 4, 2, 0)), []int64{9}, of(nu(0, 8, 2, 0))}, {of(nu(0, 2, 2, 0)), of(one(3)), []int64{9}, of(in(0, 9))},
		// other forms
		{of(nu(-1, 3, 2, 0)), of(nu(0, 4, 4, 8)), []int64{9}, of(nu(0, 8, 2, 0))}, {arrays(api.Num{}), arrays(nu(-1, 1, 2, 0)), []int64{9}, arrays(one(0))},
		{api.Env{}, api.Env{}, []int64{1}, api.Env{}}, {both(list(), nil), both(nil, list()), nil, api.Env{}},
	} {
		want(t, "P15.5", Widen(h.e, h.f, h.thresholds), h.want, "Widen(%v, %v, %v)", h.e, h.f, h.thresholds)
	}
}

func TestDeadAndUnlike(t *testing.T) {
	odd := of(nu(1, 5, 2, 0), nu(3, 3, 1, 0))
	for _, e := range losts() {
		for _, f := range append(append(shapes(), losts()...), odd) {
			form := Norm(f)
			want(t, "P15.5", Join(e, f), form, "Join(%v, %v)", e, f)
			want(t, "P15.5", Join(f, e), form, "Join(%v, %v)", f, e)
			want(t, "P15.5", Widen(e, f, []int64{9}), form, "Widen(%v, %v)", e, f)
			want(t, "P15.5", Widen(f, e, []int64{9}), form, "Widen(%v, %v)", f, e)
			want(t, "P15.5", Meet(e, f), lost(), "Meet(%v, %v)", e, f)
			want(t, "P15.5", Meet(f, e), lost(), "Meet(%v, %v)", f, e)
		}
	}
	for i, e := range shapes() {
		for j, f := range shapes() {
			form := lost()
			if i == j {
				form = e
			}
			want(t, "P15.5", Join(e, f), form, "Join(%v, %v)", e, f)
			want(t, "P15.5", Widen(e, f, []int64{9}), form, "Widen(%v, %v)", e, f)
			want(t, "P15.5", Meet(e, f), form, "Meet(%v, %v)", e, f)
		}
	}
}
