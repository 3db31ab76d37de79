package move

import (
	"slices"
	"strconv"
	"strings"
	"testing"

	"winnow/api"
)

// postRow is a statement of the variables, its edge that is gone, the Envs before and after, and the sites that are told.
type postRow struct {
	text   string
	edge   int
	before api.Env
	after  api.Env
	told   []int
}

func holdPost(t *testing.T, rows []postRow) {
	t.Helper()
	for _, r := range rows {
		p := mustText(t, variables+r.text)
		if got, told, code := Post(p, r.edge, r.before); !alike(got, r.after) || !slices.Equal(told, r.told) || code != api.OK {
			t.Errorf("P18.1: Post of %s, %d, and %v = %v, %v, %v, want %v, %v", r.text, r.edge, r.before, got, told, code, r.after, r.told)
		}
	}
}

func TestPostOfAssignments(t *testing.T) {
	e := of(in(0, 5), in(1, 4), in(7, 9), in(10, 20))
	with := func(x api.Num) api.Env { return of(x, in(1, 4), in(7, 9), in(10, 20)) }
	holdPost(t, []postRow{
		{"x := 3;", 0, e, with(one(3)), nil}, {"x := y;", 0, e, with(in(1, 4)), nil}, {"y := x;", 0, e, of(in(0, 5), in(0, 5), in(7, 9), in(10, 20)), nil}, {"x := y + 1;", 0, e, with(in(2, 5)), nil}, {"x := a[0];", 0, e, with(in(7, 9)), nil}, {"x := b[2];", 0, e, with(in(10, 20)), nil}, {"x := y * 4;", 0, e, with(nu(4, 16, 4, 0)), nil}, {"x := y - b[0];", 0, e, with(in(-19, -6)), nil},
		// what is written is read
		{"x := x;", 0, e, e, nil}, {"x := x + 1;", 0, e, with(in(1, 6)), nil}, {"x := -x;", 0, e, with(in(-5, 0)), nil}, {"x := x * 2;", 0, e, with(nu(0, 10, 2, 0)), nil}, {"x := x + x;", 0, e, with(in(0, 10)), nil}, {"x := x - y;", 0, e, with(in(-4, 4)), nil}, {"x := b[x];", 0, e, with(in(10, 20)), sites(0)}, {"x := 12 / x;", 0, e, with(in(2, 12)), sites(0)}, {"x := x + 1;", 0, xy(one(maxInt), one(1)), xy(one(minInt), one(1)), nil}, {"x := x + 1;", 0, xy(all(), one(1)), xy(all(), one(1)), nil},
		// a value that is none
		{"x := 1 / 0;", 0, e, lost(), sites(0)}, {"x := y % 0;", 0, e, lost(), sites(0)}, {"x := b[3];", 0, e, lost(), sites(0)}, {"x := b[-1];", 0, e, lost(), sites(0)}, {"x := b[y + 2];", 0, e, lost(), sites(0)}, {"x := a[y];", 0, e, lost(), sites(0)}, {"x := 6 / (x - x * 1) + 1;", 0, with(one(0)), lost(), sites(0)}, {"x := x / (y - 3);", 0, of(one(0), one(3), all(), all()), lost(), sites(0)}, {"x := 1 / 0 + b[9];", 0, e, lost(), sites(0)}, {"x := b[b[0]] + 1 / 0;", 0, e, lost(), sites(0)}, {"y := b[a[9]];", 0, e, lost(), sites(1)},
		// a site that may fault takes nothing from the Env: what is left where it doesn't isn't asked
		{"x := 12 / y;", 0, of(one(0), in(0, 4), all(), all()), of(in(3, 12), in(0, 4), all(), all()), sites(0)}, {"x := 12 / y;", 0, of(one(0), in(1, 4), all(), all()), of(in(3, 12), in(1, 4), all(), all()), nil}, {"x := b[y];", 0, of(one(0), in(1, 4), one(6), in(5, 6)), of(in(5, 6), in(1, 4), one(6), in(5, 6)), sites(0)}, {"x := b[y];", 0, of(one(0), in(-4, 1), one(6), in(5, 6)), of(in(5, 6), in(-4, 1), one(6), in(5, 6)), sites(0)}, {"x := b[y];", 0, of(one(0), in(0, 2), one(6), in(5, 6)), of(in(5, 6), in(0, 2), one(6), in(5, 6)), nil},
		// several sites, rising
		{"x := b[y] / b[x];", 0, of(in(0, 5), in(0, 5), all(), in(0, 3)), of(in(0, 3), in(0, 5), all(), in(0, 3)), sites(0, 1, 2)}, {"x := a[b[y]] % (x - 2);", 0, of(in(0, 5), in(0, 5), one(1), in(0, 3)), of(in(0, 1), in(0, 5), one(1), in(0, 3)), sites(0, 1, 2)}, {"x := b[y] / b[x];", 0, of(in(0, 2), in(0, 5), all(), in(1, 3)), of(in(0, 3), in(0, 5), all(), in(1, 3)), sites(1)},
	})
}

// The index is wholly inside, in part, wholly outside; and the array has several elements.
func TestPostOfStoresIntoSeveral(t *testing.T) {
	with := func(x, b api.Num) api.Env { return of(x, in(1, 4), one(9), b) }
	holdPost(t, []postRow{
		{"b[x] := 7;", 0, with(in(0, 2), one(0)), with(in(0, 2), nu(0, 7, 7, 0)), nil}, {"b[x] := 7;", 0, with(one(0), one(0)), with(one(0), nu(0, 7, 7, 0)), nil}, {"b[2] := 7;", 0, with(in(5, 8), one(0)), with(in(5, 8), nu(0, 7, 7, 0)), nil}, {"b[0] := 7;", 0, with(one(5), one(7)), with(one(5), one(7)), nil}, {"b[0] := 7;", 0, with(one(5), in(3, 8)), with(one(5), in(3, 8)), nil}, {"b[1] := y;", 0, with(one(5), one(9)), with(one(5), in(1, 9)), nil},
		{"b[x] := 7;", 0, with(in(1, 5), one(0)), with(in(1, 2), nu(0, 7, 7, 0)), sites(0)}, {"b[x] := 7;", 0, with(in(-5, 1), one(0)), with(in(0, 1), nu(0, 7, 7, 0)), sites(0)}, {"b[x] := 7;", 0, with(in(-5, 5), one(0)), with(in(0, 2), nu(0, 7, 7, 0)), sites(0)}, {"b[x] := 7;", 0, with(all(), one(0)), with(in(0, 2), nu(0, 7, 7, 0)), sites(0)}, {"b[x] := 7;", 0, with(in(2, 3), one(0)), with(one(2), nu(0, 7, 7, 0)), sites(0)}, {"b[x] := 7;", 0, with(in(-1, 0), one(0)), with(one(0), nu(0, 7, 7, 0)), sites(0)}, {"b[x] := 7;", 0, with(nu(-4, 6, 5, 1), one(0)), with(one(1), nu(0, 7, 7, 0)), sites(0)}, {"b[x - 4] := 7;", 0, with(in(0, 9), one(0)), with(in(4, 6), nu(0, 7, 7, 0)), sites(0)},
		{"b[x] := 7;", 0, with(in(3, 5), one(0)), lost(), sites(0)}, {"b[x] := 7;", 0, with(one(3), one(0)), lost(), sites(0)}, {"b[x] := 7;", 0, with(one(-1), one(0)), lost(), sites(0)}, {"b[x] := 7;", 0, with(in(-9, -1), one(0)), lost(), sites(0)}, {"b[x] := 7;", 0, with(nu(-2, 3, 5, 3), one(0)), lost(), sites(0)}, {"b[3] := 7;", 0, with(one(0), one(0)), lost(), sites(0)}, {"b[x] := 1 / 0 + b[7];", 0, with(in(3, 5), one(0)), lost(), sites(0)},
	})
}

// The index itself faults: the store's own site is told only where an index is left.
func TestPostOfStoresWhoseIndexFaults(t *testing.T) {
	with := func(x, y, b api.Num) api.Env { return of(x, y, one(9), b) }
	holdPost(t, []postRow{
		{"b[1 / x] := 7;", 0, with(one(0), one(1), one(0)), lost(), sites(1)}, {"b[b[5]] := 7;", 0, with(one(0), one(1), one(0)), lost(), sites(1)}, {"b[1 / x] := 1 / 0;", 0, with(one(0), one(1), one(0)), lost(), sites(1)}, {"b[x / y + b[9]] := 7;", 0, with(one(0), in(0, 4), one(0)), lost(), sites(1, 2)},
		{"b[1 / x] := 7;", 0, with(in(0, 1), one(1), one(0)), with(one(1), one(1), nu(0, 7, 7, 0)), sites(1)}, {"b[6 / x] := 7;", 0, with(in(0, 6), one(1), one(0)), with(in(1, 6), one(1), nu(0, 7, 7, 0)), sites(0, 1)}, {"b[6 / x] := 7;", 0, with(in(1, 6), one(1), one(0)), with(in(1, 6), one(1), nu(0, 7, 7, 0)), sites(0)}, {"b[x / y] := 7;", 0, with(in(0, 99), in(0, 3), one(0)), with(in(0, 8), in(1, 3), nu(0, 7, 7, 0)), sites(0, 1)}, {"b[6 / x] := 7;", 0, with(in(0, 1), one(1), one(0)), lost(), sites(0, 1)}, {"b[b[x]] := 7;", 0, with(in(1, 5), one(1), in(0, 2)), with(in(1, 2), one(1), in(0, 7)), sites(1)}, {"b[b[x]] := 7;", 0, with(in(1, 5), one(1), in(2, 4)), with(in(1, 2), one(1), in(2, 7)), sites(0, 1)}, {"b[b[x]] := 7;", 0, with(in(1, 5), one(1), in(3, 4)), lost(), sites(0, 1)},
	})
}

// The value is worked out in what the index has left.
func TestPostOfStoresAndTheirValues(t *testing.T) {
	with := func(x, y, b api.Num) api.Env { return of(x, y, one(9), b) }
	holdPost(t, []postRow{
		{"b[x] := 1 / y;", 0, with(in(0, 2), one(0), one(0)), lost(), sites(1)}, {"b[x] := 1 / y;", 0, with(in(2, 5), one(0), one(0)), lost(), sites(0, 1)}, {"b[x] := 1 / y;", 0, with(in(3, 5), one(0), one(0)), lost(), sites(0)}, {"b[x] := 6 / y;", 0, with(in(0, 2), in(0, 2), one(0)), with(in(0, 2), in(0, 2), in(0, 6)), sites(1)}, {"b[x] := 6 / y;", 0, with(in(0, 3), in(0, 2), one(1)), with(in(0, 2), in(0, 2), in(1, 6)), sites(0, 1)}, {"b[x] := b[7];", 0, with(in(0, 3), one(1), one(1)), lost(), sites(0, 1)},
		{"b[x] := x;", 0, with(in(0, 9), one(1), one(5)), with(in(0, 2), one(1), in(0, 5)), sites(0)}, {"b[x] := 6 / (x - 4);", 0, with(in(0, 9), one(1), one(0)), with(in(0, 2), one(1), in(-3, 0)), sites(0)}, {"b[x] := b[x];", 0, with(in(0, 9), one(1), one(5)), with(in(0, 2), one(1), one(5)), sites(0)}, {"b[x] := 6 / (x - 4);", 0, with(in(4, 9), one(1), one(0)), lost(), sites(0)},
		// it reads the array itself
		{"b[x] := b[x] + 1;", 0, with(in(0, 2), one(1), in(0, 5)), with(in(0, 2), one(1), in(0, 6)), nil}, {"b[x] := b[y] * 2;", 0, with(in(0, 2), in(0, 5), one(4)), with(in(0, 2), in(0, 5), nu(4, 8, 4, 0)), sites(1)}, {"b[x] := b[b[x]];", 0, with(in(0, 2), one(1), in(0, 5)), with(in(0, 2), one(1), in(0, 5)), sites(1)}, {"b[b[x]] := b[b[y]];", 0, with(in(0, 5), in(0, 5), in(0, 5)), with(in(0, 2), in(0, 5), in(0, 5)), sites(0, 1, 2, 3)}, {"b[b[x]] := a[b[y] - 9];", 0, with(in(0, 5), in(0, 5), in(0, 5)), lost(), sites(0, 1, 2, 3)},
	})
}

// Of an array of one element nothing of what it was is left.
func TestPostOfStoresIntoOne(t *testing.T) {
	with := func(x, a api.Num) api.Env { return of(x, in(1, 4), a, one(3)) }
	holdPost(t, []postRow{
		{"a[0] := 7;", 0, with(in(5, 9), in(0, 9)), with(in(5, 9), one(7)), nil}, {"a[x] := 7;", 0, with(one(0), in(0, 9)), with(one(0), one(7)), nil}, {"a[x] := 7;", 0, with(in(0, 9), in(0, 9)), with(one(0), one(7)), sites(0)}, {"a[x] := y;", 0, with(in(-9, 9), one(0)), with(one(0), in(1, 4)), sites(0)}, {"a[x] := 7;", 0, with(in(1, 9), one(0)), lost(), sites(0)}, {"a[x] := 7;", 0, with(in(-9, -1), one(0)), lost(), sites(0)}, {"a[1] := 7;", 0, with(one(0), one(0)), lost(), sites(0)},
		{"a[0] := a[0] + 1;", 0, with(one(0), in(0, 3)), with(one(0), in(1, 4)), nil}, {"a[x] := a[x];", 0, with(in(0, 5), in(0, 3)), with(one(0), in(0, 3)), sites(0)}, {"a[a[0]] := 5;", 0, with(one(2), in(0, 9)), with(one(2), one(5)), sites(0)}, {"a[a[0]] := a[0] + 1;", 0, with(one(2), in(0, 9)), with(one(2), one(1)), sites(0)}, {"a[a[x]] := a[x] + 1;", 0, with(in(0, 2), in(0, 9)), with(one(0), one(1)), sites(0, 1)}, {"a[a[0]] := 5;", 0, with(one(2), in(1, 9)), lost(), sites(0)}, {"a[x] := 1 / a[0];", 0, with(one(0), one(0)), lost(), sites(1)}, {"a[x] := 6 / a[0];", 0, with(in(0, 1), in(0, 3)), with(one(0), in(2, 6)), sites(0, 1)}, {"a[x] := b[x + 3];", 0, with(in(0, 1), one(0)), lost(), sites(0, 1)},
	})
	// The greatest length and those below it have their say.
	for length := int64(1); length <= api.MaxLength; length++ {
		p := mustText(t, "var x; array b[3]; array a["+strconv.FormatInt(length, 10)+"]; a[x] := 7;")
		env := func(x, a api.Num) api.Env { return both(list(x), list(one(8), a)) }
		inside, after := in(0, length-1), in(3, 9)
		if length == 1 {
			inside, after = one(0), one(7)
		}
		wantPost(t, p, 0, env(all(), in(3, 9)), env(inside, after), 0)
		wantPost(t, p, 0, env(inside, in(3, 9)), env(inside, after))
		wantPost(t, p, 0, env(in(length-1, 99), in(3, 9)), env(one(length-1), after), 0)
		wantPost(t, p, 0, env(in(length, 99), in(3, 9)), lost(), 0)
		wantSeed(t, p, 0, env(all(), in(3, 9)), 0, env(all(), in(3, 9)))
		wantSeed(t, p, 0, env(in(0, 99), in(3, 9)), 0, env(in(length, 99), in(3, 9)))
		wantSeed(t, p, 0, env(in(-3, length-1), in(3, 9)), 0, env(in(-3, -1), in(3, 9)))
		wantSeed(t, p, 0, env(inside, in(3, 9)), 0, lost())
	}
}

func TestPostOfInputsAndSkips(t *testing.T) {
	for _, e := range []api.Env{of(one(0), one(0), one(0), one(0)), of(in(0, 9), nu(1, 9, 2, 1), in(3, 4), all()), xy(all(), all())} {
		x, y, a, b := e.Vars[0], e.Vars[1], e.Arrays[0], e.Arrays[1]
		holdPost(t, []postRow{
			{"input x;", 0, e, of(all(), y, a, b), nil}, {"input y;", 0, e, of(x, all(), a, b), nil}, {"skip;", 0, e, e, nil}, {"skip; input y;", 1, e, of(x, all(), a, b), nil},
		})
	}
}

func TestPostOfAsserts(t *testing.T) {
	with := func(x api.Num) api.Env { return of(x, in(0, 4), one(9), in(0, 3)) }
	holdPost(t, []postRow{
		{"assert true;", 0, with(in(3, 8)), with(in(3, 8)), nil}, {"assert x < 9;", 0, with(in(3, 8)), with(in(3, 8)), nil}, {"assert x > 2 && x < 9;", 0, with(in(3, 8)), with(in(3, 8)), nil}, {"assert !(x < 3);", 0, with(in(3, 8)), with(in(3, 8)), nil},
		{"assert false;", 0, with(in(3, 8)), lost(), sites(0)}, {"assert x < 3;", 0, with(in(3, 8)), lost(), sites(0)}, {"assert !true;", 0, with(in(3, 8)), lost(), sites(0)}, {"assert x < 3 || y > 4;", 0, with(in(3, 8)), lost(), sites(0)},
		{"assert x < 5;", 0, with(in(3, 8)), with(in(3, 4)), sites(0)}, {"assert x >= y;", 0, with(in(3, 8)), with(in(3, 8)), sites(0)}, {"assert x == 5;", 0, with(in(3, 8)), with(one(5)), sites(0)}, {"assert x != 5;", 0, with(in(3, 8)), with(in(3, 8)), sites(0)}, {"assert x % 2 == 0;", 0, with(in(3, 8)), with(nu(4, 8, 2, 0)), sites(0)}, {"assert x < 4 || x > 7;", 0, with(in(3, 8)), with(nu(3, 8, 5, 3)), sites(0)}, {"assert !(x < 5);", 0, with(in(3, 8)), with(in(5, 8)), sites(0)},
		// the condition faults: surely, so that it never is false; in part
		{"assert 6 / x > 0;", 0, with(one(0)), lost(), sites(1)}, {"assert 1 / 0 == 0 || true;", 0, with(one(0)), lost(), sites(1)}, {"assert b[x] < 9 && false;", 0, with(one(3)), lost(), sites(1)}, {"assert 6 / x > 0;", 0, with(in(0, 3)), with(in(1, 3)), sites(1)}, {"assert 6 / x > 2;", 0, with(in(0, 3)), with(in(1, 3)), sites(0, 1)}, {"assert 6 / x > 9;", 0, with(in(0, 3)), lost(), sites(0, 1)}, {"assert b[x] < 9;", 0, with(in(1, 8)), with(in(1, 2)), sites(1)}, {"assert b[x] < 2;", 0, with(in(1, 8)), with(in(1, 2)), sites(0, 1)}, {"assert x < 3 && b[x] < 9;", 0, with(in(1, 8)), with(in(1, 2)), sites(0)}, {"assert x >= 3 || b[x] < 9;", 0, with(in(1, 8)), with(in(1, 8)), nil}, {"assert b[x] / b[y] < b[x + y];", 0, with(in(0, 8)), of(in(0, 2), in(0, 2), one(9), in(0, 3)), sites(0, 1, 2, 3, 4)}, {"assert x > 0 && false || 6 / x > 0;", 0, with(in(0, 3)), with(in(1, 3)), sites(1)},
	})
}

func TestPostOfConditions(t *testing.T) {
	with := func(x api.Num) api.Env { return of(x, in(0, 4), one(9), in(0, 3)) }
	for _, statement := range []string{"if %s { }", "if %s { skip; } else { x := 1; }", "while %s { }", "while %s { input x; }"} {
		for _, r := range []struct {
			condition string
			x         api.Num
			yes, not  api.Env
			told      []int
		}{
			{"true", in(3, 8), with(in(3, 8)), lost(), nil}, {"false", in(3, 8), lost(), with(in(3, 8)), nil}, {"x < 5", in(3, 8), with(in(3, 4)), with(in(5, 8)), nil}, {"x < 9", in(3, 8), with(in(3, 8)), lost(), nil}, {"!(x < 5)", in(3, 8), with(in(5, 8)), with(in(3, 4)), nil}, {"x == 3", in(3, 8), with(one(3)), with(in(4, 8)), nil},
			{"x / 2 > 2", in(3, 8), with(in(5, 8)), with(in(3, 5)), nil}, {"6 / x > 2", in(0, 3), with(in(1, 3)), with(in(1, 3)), sites(0)}, {"6 / x > 2", one(0), lost(), lost(), sites(0)}, {"b[x] < 2", in(1, 8), with(in(1, 2)), with(in(1, 2)), sites(0)}, {"x != 0 && 6 / x > 2", in(0, 3), with(in(1, 3)), with(in(0, 3)), nil}, {"x < 9 && 6 / x > 2", in(0, 3), with(in(1, 3)), with(in(1, 3)), sites(0)}, {"b[x] / x < 0 || b[y] == 1", in(0, 3), of(in(1, 2), in(0, 2), one(9), in(0, 3)), of(in(1, 2), in(0, 2), one(9), in(0, 3)), sites(0, 1, 2)},
		} {
			text := strings.Replace(statement, "%s", r.condition, 1)
			holdPost(t, []postRow{{text, 0, with(r.x), r.yes, r.told}, {text, 1, with(r.x), r.not, r.told}})
		}
	}
}
