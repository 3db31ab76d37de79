package guard

import (
	"strings"
	"testing"

	"winnow/api"
	"winnow/env"
)

// filterRow is a condition of the variables, an Env, what is left of it with either sense, and the sites that are told with both. (The assert itself is the site 0.)
type filterRow struct {
	text   string
	before api.Env
	holds  api.Env
	fails  api.Env
	told   []int
}

func (r filterRow) hold(t *testing.T) {
	t.Helper()
	p := mustText(t, variables+"assert "+r.text+";")
	wantFilter(t, p, r.before, here, true, r.holds, r.told...)
	wantFilter(t, p, r.before, here, false, r.fails, r.told...)
	if t.Failed() {
		t.Fatalf("that was %s", r.text)
	}
}

func holdFilter(t *testing.T, rows []filterRow) {
	t.Helper()
	for _, r := range rows {
		r.hold(t)
		// What isn't so is so the other way about, and the same twice.
		filterRow{"!(" + r.text + ")", r.before, r.fails, r.holds, r.told}.hold(t)
		filterRow{"!!(" + r.text + ")", r.before, r.holds, r.fails, r.told}.hold(t)
		filterRow{"!!!(" + r.text + ")", r.before, r.fails, r.holds, r.told}.hold(t)
	}
}

func TestFilterOfConstants(t *testing.T) {
	e := of(in(0, 9), one(3), nu(1, 9, 2, 1), all())
	holdFilter(t, []filterRow{
		{"true", e, e, lost(), nil}, {"false", e, lost(), e, nil}, {"true && true", e, e, lost(), nil}, {"true && false", e, lost(), e, nil}, {"false && true", e, lost(), e, nil}, {"false && false", e, lost(), e, nil}, {"true || true", e, e, lost(), nil}, {"true || false", e, e, lost(), nil}, {"false || true", e, e, lost(), nil}, {"false || false", e, lost(), e, nil},
		{"1 < 2", e, e, lost(), nil}, {"2 < 1", e, lost(), e, nil}, {"3 == 3", e, e, lost(), nil}, {"3 != 3", e, lost(), e, nil},
	})
}

func TestFilterOfComparisons(t *testing.T) {
	e, top := xy(in(0, 9), in(3, 4)), xy(all(), all())
	low, high, small, great := xy(in(0, 3), in(3, 4)), xy(in(3, 9), in(3, 4)), xy(in(0, 4), in(3, 4)), xy(in(4, 9), in(3, 4))
	holdFilter(t, []filterRow{
		{"x < y", e, low, high, nil}, {"x <= y", e, small, great, nil}, {"x > y", e, great, small, nil}, {"x >= y", e, high, low, nil}, {"x == y", e, xy(in(3, 4), in(3, 4)), e, nil}, {"x != y", e, e, xy(in(3, 4), in(3, 4)), nil},
		{"y > x", e, low, high, nil}, {"y >= x", e, small, great, nil}, {"y < x", e, great, small, nil}, {"y <= x", e, high, low, nil}, {"y == x", e, xy(in(3, 4), in(3, 4)), e, nil}, {"y != x", e, e, xy(in(3, 4), in(3, 4)), nil},
		{"x < 5", top, xy(upTo(4), all()), xy(from(5), all()), nil}, {"x <= 5", top, xy(upTo(5), all()), xy(from(6), all()), nil}, {"x > 5", top, xy(from(6), all()), xy(upTo(5), all()), nil}, {"x >= 5", top, xy(from(5), all()), xy(upTo(4), all()), nil}, {"x == 5", top, xy(one(5), all()), top, nil}, {"x != 5", top, top, xy(one(5), all()), nil}, {"5 > x", top, xy(upTo(4), all()), xy(from(5), all()), nil},
		// a number at an end can be left out, one within can't
		{"x == 0", e, xy(one(0), in(3, 4)), xy(in(1, 9), in(3, 4)), nil}, {"x != 9", e, xy(in(0, 8), in(3, 4)), xy(one(9), in(3, 4)), nil}, {"x == 4", e, xy(one(4), in(3, 4)), e, nil}, {"3 != y", e, xy(in(0, 9), one(4)), xy(in(0, 9), one(3)), nil},
		// all and nothing
		{"x < 10", e, e, lost(), nil}, {"x > 9", e, lost(), e, nil}, {"x >= 0", e, e, lost(), nil}, {"x <= -1", e, lost(), e, nil}, {"x == 10", e, lost(), e, nil}, {"x != -1", e, e, lost(), nil}, {"x < 9223372036854775807", top, xy(upTo(maxInt-1), all()), xy(one(maxInt), all()), nil}, {"x > 9223372036854775807", top, lost(), top, nil},
		// classes
		{"x % 2 == 0", xy(in(0, 9), one(1)), xy(nu(0, 8, 2, 0), one(1)), xy(nu(1, 9, 2, 1), one(1)), nil}, {"x == y", xy(nu(0, 20, 4, 1), nu(3, 30, 6, 3)), xy(one(9), one(9)), xy(nu(1, 17, 4, 1), nu(3, 27, 6, 3)), nil},
		// sums, arrays and signs on either side
		{"x + y < 5", e, xy(in(0, 1), in(3, 4)), xy(in(1, 9), in(3, 4)), nil}, {"-x > -3", e, xy(in(0, 2), in(3, 4)), xy(in(3, 9), in(3, 4)), nil}, {"a[0] < 5", of(one(1), one(1), in(0, 9), one(1)), of(one(1), one(1), in(0, 4), one(1)), of(one(1), one(1), in(5, 9), one(1)), nil}, {"b[0] < 5", of(one(1), one(1), one(1), in(0, 9)), of(one(1), one(1), one(1), in(0, 9)), of(one(1), one(1), one(1), in(0, 9)), nil}, {"b[x] < 5", of(in(0, 1), one(1), one(1), in(6, 9)), lost(), of(in(0, 1), one(1), one(1), in(6, 9)), nil},
		// one scalar on both sides: the right one is gone back through in what the left one has left
		{"x < x", e, xy(in(1, 8), in(3, 4)), e, nil}, {"x == x", e, e, e, nil}, {"x == x", xy(one(3), one(4)), xy(one(3), one(4)), lost(), nil}, {"x < x + 1", e, e, xy(in(1, 8), in(3, 4)), nil}, {"x > x + 7", e, lost(), e, nil}, {"x > x - 3", e, e, xy(in(3, 6), in(3, 4)), nil},
	})
}

// Faults in a comparison: where the left operand is none the right one's sites aren't told; and nothing is left with either sense where one is none.
func TestFilterOfFaultingComparisons(t *testing.T) {
	e := of(in(0, 9), in(0, 9), in(0, 9), in(0, 9))
	cut := of(in(1, 9), in(0, 9), in(0, 9), in(0, 9))
	zero := func(x, y api.Num) api.Env { return of(x, y, one(5), one(5)) }
	holdFilter(t, []filterRow{
		{"1 / x < 1 / y", zero(one(0), one(0)), lost(), lost(), sites(1)}, {"1 / x < 1 / y", zero(one(1), one(0)), lost(), lost(), sites(2)}, {"1 / x < 1 / y", zero(in(0, 1), one(0)), lost(), lost(), sites(1, 2)}, {"1 / x < 1 / y", zero(one(0), in(0, 1)), lost(), lost(), sites(1)}, {"1 / x <= 1 / y", zero(in(0, 1), in(0, 1)), zero(one(1), one(1)), lost(), sites(1, 2)}, {"1 / x <= 1 / y", zero(one(1), one(1)), zero(one(1), one(1)), lost(), nil},
		{"x < b[y]", zero(one(1), one(3)), lost(), lost(), sites(1)}, {"b[y] < x", zero(one(1), one(3)), lost(), lost(), sites(1)}, {"b[y] > x", zero(in(4, 6), in(2, 3)), zero(one(4), one(2)), zero(in(5, 6), one(2)), sites(1)}, {"b[x] / (x - 3) > 9 % b[7]", zero(one(3), one(3)), lost(), lost(), sites(2)},
		{"x / y > 100", xy(in(0, 9), in(0, 9)), lost(), xy(in(0, 9), in(1, 9)), sites(1)}, {"x / y > 0", xy(one(5), one(0)), lost(), lost(), sites(1)}, {"9 / x >= 0", e, cut, lost(), sites(1)}, {"9 / x < 0", e, lost(), cut, sites(1)}, {"0 > 9 % x", e, lost(), cut, sites(1)},
		// sites on both sides and inside one another
		{"b[x] / x >= b[y] % y", of(in(0, 9), in(0, 9), one(0), in(0, 9)), of(in(1, 2), in(1, 2), one(0), in(0, 9)), of(in(1, 2), one(2), one(0), in(0, 9)), sites(1, 2, 3, 4)}, {"b[b[x]] == b[y]", of(in(0, 9), in(0, 9), one(0), in(0, 3)), of(in(0, 2), in(0, 2), one(0), in(0, 3)), of(in(0, 2), in(0, 2), one(0), in(0, 3)), sites(1, 2, 3)}, {"b[0] / b[1] == b[2] / 4", of(one(0), one(0), one(0), one(0)), lost(), lost(), sites(1)}, {"4 / b[2] == b[y]", of(one(0), in(2, 3), one(0), in(0, 3)), of(one(0), one(2), one(0), in(0, 3)), of(one(0), one(2), one(0), in(0, 3)), sites(1, 3)},
	})
}

func TestFilterOfAndAndOr(t *testing.T) {
	e := xy(in(0, 9), in(3, 4))
	only := func(x api.Num) api.Env { return xy(x, in(3, 4)) }
	holdFilter(t, []filterRow{
		{"x > 2 && x < 7", e, only(in(3, 6)), e, nil}, {"x < 2 || x > 7", e, e, only(in(2, 7)), nil}, {"x == 3 || x == 7", e, only(nu(3, 7, 4, 3)), e, nil}, {"x == 0 || x == 9", e, only(nu(0, 9, 9, 0)), only(in(1, 8)), nil}, {"x != 0 && x != 9", e, only(in(1, 8)), only(nu(0, 9, 9, 0)), nil}, {"x < y && y < 4", e, xy(in(0, 3), one(3)), e, nil}, {"y < 4 && x < y", e, xy(in(0, 2), one(3)), e, nil}, {"x < 5 || y < 4", e, e, xy(in(5, 9), one(4)), nil},
		// the right one is filtered in what the left one leaves
		{"x < 5 && x >= 4", e, only(one(4)), e, nil}, {"x < 5 && x >= 5", e, lost(), e, nil}, {"x < 5 || x >= 5", e, e, lost(), nil}, {"x < 5 && y != x", e, xy(in(0, 4), in(3, 4)), xy(in(3, 9), in(3, 4)), nil}, {"y == 3 && x < y", e, xy(in(0, 2), one(3)), e, nil}, {"x == 3 && y == x", e, xy(one(3), one(3)), e, nil},
		// one side leaves nothing
		{"x > 20 && y == 3", e, lost(), e, nil}, {"x > 20 || y == 3", e, xy(in(0, 9), one(3)), xy(in(0, 9), one(4)), nil}, {"y == 3 && x > 20", e, lost(), e, nil}, {"y == 3 || x > 20", e, xy(in(0, 9), one(3)), xy(in(0, 9), one(4)), nil}, {"x < 20 && y == 3", e, xy(in(0, 9), one(3)), xy(in(0, 9), one(4)), nil}, {"x < 20 || y == 3", e, e, lost(), nil}, {"y == 3 && x < 20", e, xy(in(0, 9), one(3)), xy(in(0, 9), one(4)), nil}, {"y == 3 || x < 20", e, e, lost(), nil},
		// both do
		{"x > 20 || y > 20", e, lost(), e, nil}, {"x > 20 && y > 20", e, lost(), e, nil}, {"x < 20 && y < 20", e, e, lost(), nil}, {"x < 20 || y < 20", e, e, lost(), nil}, {"x == 3 && y == 0", xy(one(3), one(0)), xy(one(3), one(0)), lost(), nil},
	})
}

// Nested in one another, on either side.
func TestFilterOfNestedConditions(t *testing.T) {
	e := xy(in(0, 9), in(0, 9))
	only := func(x api.Num) api.Env { return xy(x, in(0, 9)) }
	holdFilter(t, []filterRow{
		{"(x > 1 && x < 4) || x == 8", e, only(in(2, 8)), e, nil}, {"x == 8 || (x > 1 && x < 4)", e, only(in(2, 8)), e, nil}, {"(x < 3 || x > 6) && x != 9", e, only(in(0, 8)), only(in(3, 9)), nil}, {"x != 9 && (x < 3 || x > 6)", e, only(in(0, 8)), only(in(3, 9)), nil}, {"x != 0 && (x < 3 || x < 2)", e, only(in(1, 2)), e, nil}, {"x < 3 && (y < 3 || y > 6)", e, xy(in(0, 2), in(0, 9)), e, nil},
		{"(x < 3 && y < 3) && (x > 1 && y > 1)", e, xy(one(2), one(2)), e, nil}, {"(x < 3 || y < 3) || (x > 6 || y > 6)", e, e, xy(in(3, 6), in(3, 6)), nil}, {"(x == 1 || x == 3) && (x == 3 || x == 5)", e, only(one(3)), e, nil}, {"(x == 1 || x == 3) || (x == 5 || x == 7)", e, only(nu(1, 7, 2, 1)), e, nil}, {"x == 1 || (x == 3 || (x == 5 || x == 7))", e, only(nu(1, 7, 2, 1)), e, nil},
		{"!(x < 3) && !(x > 6)", e, only(in(3, 6)), e, nil}, {"!(x < 3 || x > 6)", e, only(in(3, 6)), e, nil}, {"!(x < 3 && y < 3) && x == 2", e, only(one(2)), e, nil}, {"!(!(x > 3) || !(y > 3))", e, xy(in(4, 9), in(4, 9)), e, nil}, {"!(x < 3 || !(y < 3)) && x == 4", e, xy(one(4), in(0, 2)), e, nil},
	})
}

// Where the left one faults the right one has no say; where it decides neither.
func TestFilterOfFaultsBesideAndAndOr(t *testing.T) {
	with := func(x, y api.Num) api.Env { return of(x, y, one(5), one(5)) }
	holdFilter(t, []filterRow{
		{"1 / x > 0 && 1 / y > 0", with(one(0), one(0)), lost(), lost(), sites(1)}, {"1 / x > 0 || 1 / y > 0", with(one(0), one(0)), lost(), lost(), sites(1)}, {"b[x] > 0 && b[7] > 0", with(one(3), one(0)), lost(), lost(), sites(1)}, {"b[x] > 0 && b[7] > 0", with(in(2, 3), one(0)), lost(), lost(), sites(1, 2)}, {"b[x] > 7 && b[7] > 0", with(in(2, 3), one(0)), lost(), with(one(2), one(0)), sites(1)}, {"b[x] > 7 || b[7] > 0", with(in(2, 3), one(0)), lost(), lost(), sites(1, 2)}, {"b[x] < 7 || b[7] > 0", with(in(2, 3), one(0)), with(one(2), one(0)), lost(), sites(1)},
		// the right one alone
		{"x > 2 && 1 / y == 0", with(in(0, 9), one(0)), lost(), with(in(0, 2), one(0)), sites(1)}, {"x > 2 && 1 / y == 0", with(in(0, 2), one(0)), lost(), with(in(0, 2), one(0)), nil}, {"x > 2 && 1 / y == 0", with(in(3, 9), one(0)), lost(), lost(), sites(1)}, {"x > 2 || 1 / y == 0", with(in(0, 9), one(0)), with(in(3, 9), one(0)), lost(), sites(1)}, {"x > 2 || 1 / y == 0", with(in(3, 9), one(0)), with(in(3, 9), one(0)), lost(), nil}, {"x > 2 || 1 / y == 0", with(in(0, 2), one(0)), lost(), lost(), sites(1)}, {"true && 1 / y == 0", with(one(1), one(0)), lost(), lost(), sites(1)}, {"false && 1 / y == 0", with(one(1), one(0)), lost(), with(one(1), one(0)), nil}, {"true || 1 / y == 0", with(one(1), one(0)), with(one(1), one(0)), lost(), nil}, {"false || 1 / y == 0", with(one(1), one(0)), lost(), lost(), sites(1)},
		// what guards a fault: the right one's site isn't told
		{"x != 0 && 9 / x > 3", with(in(0, 9), one(0)), with(in(1, 9), one(0)), with(in(0, 9), one(0)), nil}, {"x == 0 || 9 / x > 3", with(in(0, 9), one(0)), with(in(0, 9), one(0)), with(in(1, 9), one(0)), nil}, {"x >= 0 && x < 3 && b[x] == 5", with(all(), one(0)), with(in(0, 2), one(0)), with(all(), one(0)), nil}, {"x < 0 || x > 2 || b[x] == 5", with(all(), one(0)), with(all(), one(0)), lost(), nil}, {"x <= 3 && b[x] == 5", with(in(0, 9), one(0)), with(in(0, 2), one(0)), with(in(4, 9), one(0)), sites(1)},
		// sites on both sides, rising, each once
		{"b[x] == 5 && b[y] == 5", with(in(2, 3), in(2, 3)), with(one(2), one(2)), lost(), sites(1, 2)}, {"b[x] != 5 || b[y] != 5", with(in(2, 3), in(2, 3)), lost(), with(one(2), one(2)), sites(1, 2)}, {"b[x] == 5 && b[x] == 5", with(in(2, 3), one(0)), with(one(2), one(0)), lost(), sites(1)}, {"(b[x] == 5 || 1 / y == 1) && (9 / y > 1 || b[y] == 5)", with(in(2, 3), in(0, 9)), with(one(2), in(1, 9)), lost(), sites(1, 3, 4)}, {"(b[y] > 5 || 1 / y == 1) && (9 / y > 1 || b[y] == 5)", with(one(0), in(0, 3)), with(one(0), in(1, 2)), with(one(0), in(1, 2)), sites(1, 2)},
	})
}

// deepest is how many && and || may stand in one another above a comparison.
const deepest = api.MaxNest - 3

func TestFilterOfDeepConditions(t *testing.T) {
	low, high := xy(in(0, 4), one(1)), xy(in(5, 9), one(1))
	left, right := "x < 5", "x < 5"
	for i := range deepest {
		left = "(" + left + []string{" && true)", " || false)"}[i%2]
		right = []string{"(true && ", "(false || "}[i%2] + right + ")"
	}
	for _, text := range []string{left, right} {
		filterRow{text, xy(in(0, 9), one(1)), low, high, nil}.hold(t)
	}
	filterRow{strings.Repeat("!", deepest) + "(x < 5)", xy(in(0, 9), one(1)), high, low, nil}.hold(t)
	filterRow{strings.Repeat("!", deepest-1) + "(x < 5)", xy(in(0, 9), one(1)), low, high, nil}.hold(t)
}

// ladder is a condition as deep as there may be, each && and || on the left of the next.
func ladder() string {
	text := "x > 0"
	for i := range deepest {
		text = "(" + text + []string{" && ", " || "}[i%2] + "x > " + num64(int64(i+1)) + ")"
	}
	return text
}

// A deep condition is gone through once for both senses of what stands on the left: the work grows with the nodes, and isn't doubled with each level.
func TestFilterGoesThroughAConditionOnce(t *testing.T) {
	// Each && lets the bound rise; each || beside a greater bound changes nothing.
	e, last := xy(in(0, 99), one(1)), int64(deepest)
	if last%2 == 0 {
		last--
	}
	filterRow{ladder(), e, xy(in(last+1, 99), one(1)), xy(in(0, last), one(1)), nil}.hold(t)
	p := mustText(t, variables+"assert "+ladder()+";")
	for _, sense := range []bool{true, false} {
		if made := testing.AllocsPerRun(1, func() { Filter(p, e, here, sense) }); made > 50000 {
			t.Errorf("P17.2: Filter of a deep condition and %v takes %v pieces of memory", sense, made)
		}
	}
}

func TestFilterOfLongConditions(t *testing.T) {
	var parts []string
	for i := range int64(64) {
		parts = append(parts, "x != "+num64(i))
	}
	e := xy(in(0, 99), one(1))
	holdFilter(t, []filterRow{
		{paired(parts, " && "), e, xy(in(64, 99), one(1)), xy(in(0, 63), one(1)), nil},
		{balanced(6, "x > 5", "||"), e, xy(in(6, 99), one(1)), xy(in(0, 5), one(1)), nil},
		{balanced(6, "x > 5", "&&"), e, xy(in(6, 99), one(1)), xy(in(0, 5), one(1)), nil},
	})
	// As many sites as there may be, beside the assert.
	many := strings.Repeat("1 / x == 5 || ", api.MaxSites-2) + "1 / x == 5"
	filterRow{many, xy(in(-1, 1), one(1)), lost(), xy(in(-1, 1), one(1)), sites(1, 2, 3, 4, 5, 6, 7, 8, 9, 10, 11)}.hold(t)
	filterRow{many, xy(one(0), one(1)), lost(), lost(), sites(1)}.hold(t)
	filterRow{many, xy(in(0, 1), one(1)), lost(), xy(one(1), one(1)), sites(1)}.hold(t)
	// As many nodes as there may be.
	p := mustText(t, "var x; skip; assert "+balanced(6, "x < 7", "&&")+" && ("+balanced(3, "x > 2", "||")+" && ("+balanced(1, "x < 9", "&&")+"));")
	if len(p.Nodes) < api.MaxNodes-10 {
		t.Errorf("the long one has %d nodes", len(p.Nodes))
	}
	wantFilter(t, p, both(list(all()), nil), 3, true, both(list(in(3, 6)), nil))
	wantFilter(t, p, both(list(all()), nil), 3, false, both(list(all()), nil))
}

// paired puts an operator between the parts, as a tree that isn't deep.
func paired(parts []string, op string) string {
	if len(parts) == 1 {
		return parts[0]
	}
	half := len(parts) / 2
	return "(" + paired(parts[:half], op) + op + paired(parts[half:], op) + ")"
}

// Sites and conditions of other statements have no say.
func TestFilterOfOneAmongSeveral(t *testing.T) {
	p := mustText(t, "var x; var y; array a[2]; assert 1 / 0 == 1; x := a[9]; if 9 / x > 2 && a[y] == 0 { assert x > 100; } while x / y != 3 { y := 1 / 0; }")
	e := both(list(in(0, 9), in(0, 9)), list(in(0, 9)))
	for place, n := range p.Nodes {
		switch {
		case n.Op == api.OpAnd:
			wantFilter(t, p, e, place, true, both(list(in(1, 9), in(0, 1)), list(in(0, 9))), 3, 4)
		case n.Op == api.OpNe:
			left, told, code := Filter(p, e, place, true)
			if !env.Same(left, both(list(in(0, 9), in(1, 9)), list(in(0, 9)))) || len(told) != 1 || told[0] != 6 || code != api.OK {
				t.Errorf("P17.2: at %d: %v, %v, %v", place, left, told, code)
			}
		}
	}
}
