package move

import (
	"strings"
	"testing"

	"winnow/api"
)

// preRow is a statement of the variables, its edge that is gone, the Envs ahead of it and behind it, and what is left of the first.
type preRow struct {
	text   string
	edge   int
	before api.Env
	after  api.Env
	wanted api.Env
}

func holdPre(t *testing.T, rows []preRow) {
	t.Helper()
	for _, r := range rows {
		p := mustText(t, variables+r.text)
		if got, code := Pre(p, r.edge, r.before, r.after); !alike(got, r.wanted) || code != api.OK {
			t.Errorf("P18.2: Pre of %s, %d, %v and %v = %v, %v, want %v", r.text, r.edge, r.before, r.after, got, code, r.wanted)
		}
	}
}

func TestPreOfAssignments(t *testing.T) {
	any := xy(all(), all())
	e := of(in(0, 9), in(0, 9), in(0, 9), in(0, 9))
	x := func(a api.Num) api.Env { return xy(a, all()) }
	holdPre(t, []preRow{
		{"x := 7;", 0, e, any, e}, {"x := 7;", 0, e, x(one(7)), e}, {"x := 7;", 0, e, x(in(5, 20)), e}, {"x := 7;", 0, e, x(one(4)), lost()}, {"x := y;", 0, e, x(in(5, 20)), of(in(0, 9), in(5, 9), in(0, 9), in(0, 9))}, {"x := y;", 0, e, x(in(10, 20)), lost()}, {"x := y + 1;", 0, e, x(one(4)), of(in(0, 9), one(3), in(0, 9), in(0, 9))}, {"x := a[0];", 0, e, x(one(4)), of(in(0, 9), in(0, 9), one(4), in(0, 9))}, {"x := b[0];", 0, e, x(one(4)), e}, {"x := b[y];", 0, e, x(one(4)), of(in(0, 9), in(0, 2), in(0, 9), in(0, 9))}, {"x := b[0];", 0, e, x(one(10)), lost()},
		// the expression reads the scalar: what it was, not what it is
		{"x := x + 1;", 0, e, x(one(4)), of(one(3), in(0, 9), in(0, 9), in(0, 9))}, {"x := x + 1;", 0, e, x(in(10, 20)), of(one(9), in(0, 9), in(0, 9), in(0, 9))}, {"x := x + 1;", 0, e, x(in(11, 20)), lost()}, {"x := x + 1;", 0, e, x(one(0)), lost()}, {"x := x;", 0, e, x(in(5, 20)), of(in(5, 9), in(0, 9), in(0, 9), in(0, 9))}, {"x := -x;", 0, e, x(in(-4, 4)), of(in(0, 4), in(0, 9), in(0, 9), in(0, 9))}, {"x := x - y;", 0, e, x(one(9)), of(one(9), one(0), in(0, 9), in(0, 9))}, {"x := x * 3;", 0, e, x(in(20, 25)), of(in(6, 8), in(0, 9), in(0, 9), in(0, 9))}, {"x := b[x];", 0, e, any, of(in(0, 2), in(0, 9), in(0, 9), in(0, 9))}, {"x := x + 1;", 0, any, x(one(minInt)), x(one(maxInt))}, {"x := x - 20;", 0, e, x(in(-20, -18)), of(in(0, 2), in(0, 9), in(0, 9), in(0, 9))},
		// the expression faults
		{"x := y / 2;", 0, e, x(in(3, 6)), of(in(0, 9), in(5, 9), in(0, 9), in(0, 9))}, {"x := 6 / y;", 0, e, x(in(3, 6)), of(in(0, 9), in(1, 9), in(0, 9), in(0, 9))}, {"x := 6 / y;", 0, e, any, of(in(0, 9), in(1, 9), in(0, 9), in(0, 9))}, {"x := 1 / 0;", 0, e, any, lost()}, {"x := b[3];", 0, e, any, lost()}, {"x := a[y + 1];", 0, e, any, lost()},
		// the others are met
		{"x := 7;", 0, e, of(all(), in(5, 20), in(6, 20), in(7, 20)), of(in(0, 9), in(5, 9), in(6, 9), in(7, 9))}, {"x := y;", 0, e, of(in(0, 6), in(5, 20), all(), all()), of(in(0, 9), in(5, 6), in(0, 9), in(0, 9))}, {"y := 7;", 0, e, of(in(5, 20), all(), all(), all()), of(in(5, 9), in(0, 9), in(0, 9), in(0, 9))}, {"y := x;", 0, e, of(in(5, 20), in(0, 5), all(), all()), of(one(5), in(0, 9), in(0, 9), in(0, 9))},
		// nothing in common
		{"x := 7;", 0, e, of(all(), in(10, 20), all(), all()), lost()}, {"x := 7;", 0, e, of(all(), all(), in(10, 20), all()), lost()}, {"x := 7;", 0, e, of(all(), all(), all(), one(-1)), lost()}, {"x := y;", 0, e, of(in(0, 4), in(5, 9), all(), all()), lost()}, {"y := 7;", 0, e, of(in(10, 20), all(), all(), all()), lost()}, {"x := 7;", 0, xy(nu(0, 8, 2, 0), nu(0, 8, 2, 0)), xy(one(7), nu(1, 9, 2, 1)), lost()},
	})
}

func TestPreOfStoresIntoSeveral(t *testing.T) {
	e := of(in(-9, 9), in(0, 9), in(0, 9), in(0, 9))
	with := func(x, y api.Num) api.Env { return of(x, y, in(0, 9), in(0, 9)) }
	b := func(b api.Num) api.Env { return of(all(), all(), all(), b) }
	holdPre(t, []preRow{
		{"b[x] := y;", 0, e, b(all()), with(in(0, 2), in(0, 9))}, {"b[x] := y;", 0, e, b(one(4)), with(in(0, 2), one(4))}, {"b[x] := y;", 0, e, b(in(9, 20)), with(in(0, 2), one(9))}, {"b[x] := y;", 0, e, b(in(10, 20)), lost()}, {"b[x] := 4;", 0, e, b(one(4)), with(in(0, 2), in(0, 9))}, {"b[x] := 4;", 0, e, b(one(5)), lost()}, {"b[x] := y;", 0, with(in(2, 3), in(0, 9)), b(one(4)), with(one(2), one(4))}, {"b[x] := y;", 0, with(in(3, 9), in(0, 9)), b(one(4)), lost()}, {"b[x] := y;", 0, with(in(-9, -1), in(0, 9)), b(one(4)), lost()}, {"b[3] := y;", 0, e, b(all()), lost()}, {"b[x - y] := 4;", 0, with(in(9, 20), in(0, 9)), b(one(4)), with(in(9, 11), in(7, 9))},
		// what the array is behind the step says nothing of what it was; what was ahead of it stays
		{"b[0] := y;", 0, with(one(5), in(0, 9)), b(in(20, 30)), lost()}, {"b[0] := y + 20;", 0, with(one(5), in(0, 9)), b(in(20, 23)), with(one(5), in(0, 3))}, {"b[0] := b[0] + 20;", 0, with(one(5), in(0, 9)), b(in(20, 23)), with(one(5), in(0, 9))}, {"b[0] := b[x] + 20;", 0, e, b(in(20, 23)), with(in(0, 2), in(0, 9))}, {"b[0] := b[x] + 20;", 0, e, b(in(30, 33)), lost()}, {"b[b[x]] := y;", 0, e, b(one(4)), with(in(0, 2), one(4))},
		// the value is gone back through in what the index has left
		{"b[x] := x;", 0, e, b(in(2, 9)), with(one(2), in(0, 9))}, {"b[x] := x;", 0, e, b(in(3, 9)), lost()}, {"b[x] := x - 4;", 0, e, b(in(-3, 9)), with(in(1, 2), in(0, 9))},
		// it faults
		{"b[x] := 6 / y;", 0, e, b(in(3, 6)), with(in(0, 2), in(1, 9))}, {"b[x] := 1 / 0;", 0, e, b(all()), lost()}, {"b[1 / 0] := 1;", 0, e, b(all()), lost()}, {"b[6 / y] := 1;", 0, e, b(all()), with(in(-9, 9), in(1, 9))},
		// the others are met, or have nothing in common
		{"b[x] := 4;", 0, e, of(in(1, 20), in(5, 20), in(6, 20), all()), of(in(1, 2), in(5, 9), in(6, 9), in(0, 9))}, {"b[x] := y;", 0, e, of(all(), in(5, 20), all(), in(0, 6)), with(in(0, 2), in(5, 6))}, {"b[x] := 4;", 0, e, of(in(3, 20), all(), all(), all()), lost()}, {"b[x] := 4;", 0, e, of(all(), in(10, 20), all(), all()), lost()}, {"b[x] := 4;", 0, e, of(all(), all(), one(-1), all()), lost()},
	})
}

func TestPreOfStoresIntoOne(t *testing.T) {
	e := of(in(-9, 9), in(0, 9), in(0, 9), in(0, 9))
	with := func(x, y, a api.Num) api.Env { return of(x, y, a, in(0, 9)) }
	a := func(a api.Num) api.Env { return of(all(), all(), a, all()) }
	holdPre(t, []preRow{
		{"a[x] := y;", 0, e, a(all()), with(one(0), in(0, 9), in(0, 9))}, {"a[x] := y;", 0, e, a(one(4)), with(one(0), one(4), in(0, 9))}, {"a[0] := y;", 0, e, a(one(4)), with(in(-9, 9), one(4), in(0, 9))}, {"a[0] := y;", 0, e, a(one(10)), lost()}, {"a[x] := y;", 0, with(in(1, 9), all(), all()), a(one(4)), lost()}, {"a[1] := y;", 0, e, a(one(4)), lost()}, {"a[0] := 4;", 0, e, a(one(4)), e}, {"a[0] := 4;", 0, e, a(one(3)), lost()},
		{"a[0] := a[0] + 1;", 0, e, a(one(5)), with(in(-9, 9), in(0, 9), one(4))}, {"a[0] := a[0] + 20;", 0, e, a(in(20, 23)), with(in(-9, 9), in(0, 9), in(0, 3))}, {"a[0] := a[0];", 0, e, a(in(5, 20)), with(in(-9, 9), in(0, 9), in(5, 9))}, {"a[x] := a[y];", 0, e, a(one(5)), with(one(0), one(0), one(5))}, {"a[a[0]] := 5;", 0, e, a(one(5)), with(in(-9, 9), in(0, 9), one(0))}, {"a[a[0]] := a[0] + 1;", 0, e, a(one(1)), with(in(-9, 9), in(0, 9), one(0))}, {"a[a[0]] := a[0] + 1;", 0, e, a(one(2)), lost()}, {"a[0] := 6 / a[0];", 0, e, a(in(3, 6)), with(in(-9, 9), in(0, 9), in(1, 9))},
		{"a[x] := 4;", 0, e, of(all(), in(5, 20), all(), in(6, 20)), of(one(0), in(5, 9), in(0, 9), in(6, 9))}, {"a[x] := 4;", 0, e, of(in(1, 20), all(), all(), all()), lost()}, {"a[x] := 4;", 0, e, of(all(), all(), all(), in(10, 20)), lost()},
	})
}

// Of an input the scalar is what it was, whatever it is; the others are met.
func TestPreOfInputs(t *testing.T) {
	e := of(in(0, 9), in(0, 9), in(0, 9), in(0, 9))
	holdPre(t, []preRow{
		{"input x;", 0, e, xy(all(), all()), e}, {"input x;", 0, e, xy(one(4), all()), e}, {"input x;", 0, e, xy(one(20), all()), e}, {"input x;", 0, of(one(5), one(0), one(0), one(0)), of(one(9), one(0), one(0), one(0)), of(one(5), one(0), one(0), one(0))}, {"input x;", 0, e, of(one(20), in(5, 20), in(6, 20), in(7, 20)), of(in(0, 9), in(5, 9), in(6, 9), in(7, 9))}, {"input y;", 0, e, of(in(5, 20), one(20), in(6, 20), in(7, 20)), of(in(5, 9), in(0, 9), in(6, 9), in(7, 9))},
		{"input x;", 0, e, xy(all(), one(20)), lost()}, {"input y;", 0, e, xy(one(20), all()), lost()}, {"input x;", 0, e, of(all(), all(), one(20), all()), lost()}, {"input x;", 0, e, of(all(), all(), all(), one(20)), lost()}, {"input y; input x;", 1, e, xy(one(20), in(3, 20)), of(in(0, 9), in(3, 9), in(0, 9), in(0, 9))},
	})
}

func TestPreOfSkips(t *testing.T) {
	e := of(in(0, 9), in(0, 9), in(0, 9), in(0, 9))
	holdPre(t, []preRow{
		{"skip;", 0, e, xy(all(), all()), e}, {"skip;", 0, xy(all(), all()), e, e}, {"skip;", 0, e, of(in(4, 20), in(5, 20), in(6, 20), in(7, 20)), of(in(4, 9), in(5, 9), in(6, 9), in(7, 9))}, {"skip;", 0, xy(nu(0, 20, 2, 0), all()), xy(nu(0, 20, 3, 0), all()), xy(nu(0, 18, 6, 0), all())},
		{"skip;", 0, e, of(one(20), all(), all(), all()), lost()}, {"skip;", 0, e, of(all(), one(20), all(), all()), lost()}, {"skip;", 0, e, of(all(), all(), one(20), all()), lost()}, {"skip;", 0, e, of(all(), all(), all(), one(20)), lost()},
	})
}

// Conditions cut what the two Envs have in common, by the sense that the edge has.
func TestPreOfConditions(t *testing.T) {
	e := of(in(3, 8), in(0, 9), in(0, 9), in(0, 3))
	with := func(x api.Num) api.Env { return of(x, in(0, 9), in(0, 9), in(0, 3)) }
	x := func(a api.Num) api.Env { return xy(a, all()) }
	for _, r := range []struct {
		condition string
		after     api.Env
		yes, not  api.Env
	}{
		{"true", x(all()), e, lost()}, {"false", x(all()), lost(), e}, {"x < 5", x(all()), with(in(3, 4)), with(in(5, 8))}, {"x < 5", x(in(4, 9)), with(one(4)), with(in(5, 8))}, {"x < 5", x(in(5, 9)), lost(), with(in(5, 8))}, {"x < 5", x(in(0, 4)), with(in(3, 4)), lost()}, {"x < 5", x(in(9, 20)), lost(), lost()}, {"!(x < 5)", x(in(4, 6)), with(in(5, 6)), with(one(4))},
		{"6 / (x - 5) > 0", x(in(5, 6)), with(one(6)), lost()}, {"1 / 0 > 0", x(all()), lost(), lost()}, {"b[x - 3] < 2", x(all()), with(in(3, 5)), with(in(3, 5))}, {"b[x - 3] < 4", x(in(4, 20)), with(in(4, 5)), lost()}, {"x < 5 && y < 3", xy(in(4, 9), in(2, 9)), of(one(4), one(2), in(0, 9), in(0, 3)), of(in(4, 8), in(2, 9), in(0, 9), in(0, 3))}, {"x < 5 || y < 3", xy(in(4, 9), in(2, 9)), of(in(4, 8), in(2, 9), in(0, 9), in(0, 3)), of(in(5, 8), in(3, 9), in(0, 9), in(0, 3))}, {"x < 5", of(all(), one(20), all(), all()), lost(), lost()}, {"x < 5", of(all(), all(), all(), one(9)), lost(), lost()}, {"a[0] < 2", of(all(), all(), in(1, 3), all()), of(in(3, 8), in(0, 9), one(1), in(0, 3)), of(in(3, 8), in(0, 9), in(2, 3), in(0, 3))},
	} {
		for _, statement := range []string{"if %s { }", "if %s { skip; } else { x := 1; }", "while %s { }", "while %s { input x; }"} {
			text := strings.Replace(statement, "%s", r.condition, 1)
			holdPre(t, []preRow{{text, 0, e, r.after, r.yes}, {text, 1, e, r.after, r.not}})
		}
		holdPre(t, []preRow{{"assert " + r.condition + ";", 0, e, r.after, r.yes}})
	}
}
