package guard

import (
	"strings"
	"testing"

	"winnow/api"
	"winnow/num"
)

// backRow is an expression of the variables, what it has to be in, and the Envs before and after.
type backRow struct {
	text   string
	c      api.Num
	before api.Env
	after  api.Env
}

func (r backRow) hold(t *testing.T) {
	t.Helper()
	p := mustText(t, variables+"x := "+r.text+";")
	if got, code := Back(p, r.before, here, r.c); !alike(got, r.after) || code != api.OK {
		t.Errorf("P17.1: Back of %v, %s and %v = %v, %v, want %v", r.before, r.text, r.c, got, code, r.after)
	}
}

func holdBack(t *testing.T, rows []backRow) {
	t.Helper()
	for _, r := range rows {
		r.hold(t)
	}
}

func TestBackOfNumbers(t *testing.T) {
	e := of(in(0, 9), one(3), nu(1, 9, 2, 1), all())
	for _, c := range []api.Num{one(7), in(0, 7), in(7, 9), all(), nu(1, 9, 2, 1), nu(0, 9, 3, 7), nu(7, 7, 1, 0), nu(5, 9, 0, 7)} {
		backRow{"7", c, e, e}.hold(t)
	}
	for _, c := range append(nones(), in(0, 6), one(8), in(8, 99), nu(0, 8, 2, 0), one(-7), upTo(6), from(8), api.Num{}) {
		backRow{"7", c, e, lost()}.hold(t)
	}
	holdBack(t, []backRow{
		{"0", api.Num{}, e, e}, {"0", one(1), e, lost()}, {"0", from(1), e, lost()}, {"0", upTo(-1), e, lost()},
		{"9223372036854775807", from(maxInt - 1), e, e}, {"9223372036854775807", upTo(maxInt - 1), e, lost()}, {"9223372036854775807", one(minInt), e, lost()},
	})
}

func TestBackOfScalars(t *testing.T) {
	holdBack(t, []backRow{
		{"x", in(3, 20), xy(in(0, 9), in(0, 9)), xy(in(3, 9), in(0, 9))}, {"y", in(3, 20), xy(in(0, 9), in(0, 9)), xy(in(0, 9), in(3, 9))},
		{"x", one(5), xy(in(0, 9), one(1)), xy(one(5), one(1))}, {"x", all(), xy(in(0, 9), one(1)), xy(in(0, 9), one(1))}, {"x", in(-5, 0), xy(in(0, 9), one(1)), xy(one(0), one(1))}, {"x", in(10, 20), xy(in(0, 9), one(1)), lost()}, {"x", in(-9, -1), xy(in(0, 9), one(1)), lost()},
		{"x", nu(1, 21, 4, 1), xy(in(0, 9), one(1)), xy(nu(1, 9, 4, 1), one(1))}, {"x", nu(0, 8, 4, 0), xy(nu(0, 9, 6, 2), one(1)), xy(one(8), one(1))}, {"x", nu(0, 8, 2, 0), xy(nu(1, 9, 2, 1), one(1)), lost()},
		{"x", one(minInt), xy(all(), all()), xy(one(minInt), all())}, {"x", one(maxInt), xy(all(), all()), xy(one(maxInt), all())},
		// otherwise than in the normal form
		{"x", nu(0, 9, 3, 5), xy(nu(0, 9, 2, 7), nu(0, 9, 0, 4)), xy(one(5), one(4))}, {"x", nu(0, 9, 0, 4), xy(in(0, 9), one(1)), xy(one(4), one(1))}, {"x", nu(4, 4, 1, 0), xy(in(0, 9), one(1)), xy(one(4), one(1))},
	})
	for _, c := range nones() {
		backRow{"x", c, xy(all(), all()), lost()}.hold(t)
	}
	// Which scalar is meant the name tells.
	p := mustText(t, "array a[1]; var x; var y; var z; y := z;")
	wantBack(t, p, both(list(all(), all(), all()), list(one(0))), 5, one(4), both(list(all(), all(), one(4)), list(one(0))))
}

// Of an array of several elements the index alone is gone back through.
func TestBackOfLoadsOfSeveral(t *testing.T) {
	some := in(5, 9)
	with := func(x api.Num) api.Env { return of(x, one(1), one(2), some) }
	holdBack(t, []backRow{
		{"b[x]", all(), with(in(0, 2)), with(in(0, 2))}, {"b[x]", all(), with(in(0, 9)), with(in(0, 2))}, {"b[x]", all(), with(in(-5, 5)), with(in(0, 2))}, {"b[x]", all(), with(all()), with(in(0, 2))}, {"b[x]", all(), with(in(2, 5)), with(one(2))}, {"b[x]", all(), with(in(-5, 0)), with(one(0))}, {"b[x]", all(), with(one(1)), with(one(1))}, {"b[x]", all(), with(nu(-4, 6, 5, 1)), with(one(1))}, {"b[x]", all(), with(nu(-4, 8, 2, 0)), with(nu(0, 2, 2, 0))},
		{"b[x]", all(), with(in(3, 9)), lost()}, {"b[x]", all(), with(one(3)), lost()}, {"b[x]", all(), with(one(-1)), lost()}, {"b[x]", all(), with(in(-9, -1)), lost()}, {"b[x]", all(), with(nu(-2, 8, 5, 3)), lost()},
		// c meets what the elements are in part, wholly, not at all: they stay
		{"b[x]", in(7, 20), with(in(0, 9)), with(in(0, 2))}, {"b[x]", one(5), with(in(0, 9)), with(in(0, 2))}, {"b[x]", in(0, 4), with(in(0, 9)), lost()}, {"b[x]", no(), with(in(0, 9)), lost()}, {"b[0]", one(9), with(in(0, 9)), with(in(0, 9))}, {"b[0]", one(10), with(in(0, 9)), lost()}, {"b[3]", one(9), with(in(0, 9)), lost()},
		// deeper indices
		{"b[b[x]]", all(), of(in(0, 9), one(1), one(2), in(0, 9)), of(in(0, 2), one(1), one(2), in(0, 9))}, {"b[x - 4]", all(), with(in(0, 9)), with(in(4, 6))}, {"b[-x]", all(), with(in(-9, 9)), with(in(-2, 0))}, {"b[12 / x]", all(), with(one(0)), lost()}, {"b[a[x]]", all(), of(in(0, 9), one(1), in(-3, 9), some), of(one(0), one(1), in(0, 2), some)}, {"b[a[x]]", all(), of(in(1, 9), one(1), in(-3, 9), some), lost()}, {"b[b[x]]", all(), of(in(0, 9), one(1), one(2), in(3, 9)), lost()},
	})
}

// Of an array of one element that element is gone back through too.
func TestBackOfLoadsOfOne(t *testing.T) {
	with := func(x, a api.Num) api.Env { return of(x, one(1), a, in(3, 4)) }
	holdBack(t, []backRow{
		{"a[x]", in(3, 5), with(in(0, 9), in(0, 9)), with(one(0), in(3, 5))}, {"a[x]", all(), with(in(-3, 3), in(0, 9)), with(one(0), in(0, 9))}, {"a[0]", in(7, 20), with(in(1, 9), in(0, 9)), with(in(1, 9), in(7, 9))}, {"a[0]", nu(0, 9, 4, 7), with(one(1), in(0, 9)), with(one(1), nu(3, 7, 4, 3))}, {"a[0]", one(4), with(one(1), nu(0, 9, 2, 6)), with(one(1), one(4))},
		{"a[x]", in(3, 5), with(in(1, 9), in(0, 9)), lost()}, {"a[x]", in(3, 5), with(in(-9, -1), in(0, 9)), lost()}, {"a[1]", in(3, 5), with(one(0), in(0, 9)), lost()}, {"a[0]", in(10, 20), with(one(0), in(0, 9)), lost()}, {"a[0]", no(), with(one(0), in(0, 9)), lost()},
		// the element itself is its index: it is 0 then, and what is left of it is met with c
		{"a[a[0]]", in(0, 5), with(one(7), in(0, 9)), with(one(7), one(0))}, {"a[a[0]]", in(3, 5), with(one(7), in(0, 9)), lost()}, {"a[a[x]]", in(-5, 5), with(in(-7, 7), in(-9, 9)), with(one(0), one(0))}, {"a[a[a[0]]]", all(), with(one(7), in(-9, 9)), with(one(7), one(0))}, {"a[b[x] - 3]", in(0, 5), with(in(2, 7), in(4, 9)), with(one(2), in(4, 5))},
	})
	// Which array is meant the name tells.
	p := mustText(t, "array b[3]; var x; array a[1]; array c[1]; x := c[x] + a[x];")
	wantBack(t, p, both(list(in(0, 9)), list(all(), in(0, 9), in(0, 9))), 5, one(18), both(list(one(0)), list(all(), one(9), one(9))))
	wantBack(t, p, both(list(in(0, 9)), list(all(), in(0, 9), in(0, 9))), 6, one(4), both(list(one(0)), list(all(), in(0, 9), one(4))))
}

// The greatest length and those below it have their say.
func TestBackOfEachLength(t *testing.T) {
	for length := int64(1); length <= api.MaxLength; length++ {
		p := mustText(t, "var x; array b[3]; array a["+num64(length)+"]; x := a[x];")
		with := func(x, a api.Num) api.Env { return both(list(x), list(one(8), a)) }
		cut := in(3, 9)
		if length == 1 {
			cut = in(3, 5)
		}
		wantBack(t, p, with(all(), in(3, 9)), 4, in(0, 5), with(num.Range(0, length-1), cut))
		wantBack(t, p, with(in(length-1, 99), in(3, 9)), 4, in(0, 5), with(one(length-1), cut))
		wantBack(t, p, with(in(length, 99), in(3, 9)), 4, in(0, 5), lost())
	}
}

func num64(v int64) string {
	if v > 9 {
		return num64(v/10) + num64(v%10)
	}
	return string(rune('0' + v))
}

func TestBackOfNegations(t *testing.T) {
	holdBack(t, []backRow{
		{"-x", in(-4, -2), xy(in(0, 9), one(1)), xy(in(2, 4), one(1))}, {"-x", in(-20, 20), xy(in(0, 9), one(1)), xy(in(0, 9), one(1))}, {"-x", in(1, 5), xy(in(0, 9), one(1)), lost()}, {"-x", one(0), xy(in(0, 9), one(1)), xy(one(0), one(1))}, {"-x", no(), xy(in(0, 9), one(1)), lost()}, {"-x", nu(-9, 9, 3, 1), xy(in(-9, 9), one(1)), xy(nu(-7, 8, 3, 2), one(1))}, {"-x", nu(-9, 0, 0, 1<<64-4), xy(in(0, 9), one(1)), xy(one(4), one(1))},
		{"--x", in(2, 4), xy(in(0, 9), one(1)), xy(in(2, 4), one(1))}, {"---x", in(-4, -2), xy(in(0, 9), one(1)), xy(in(2, 4), one(1))}, {"--x", in(10, 14), xy(in(0, 9), one(1)), lost()}, {"-7", one(-7), xy(all(), all()), xy(all(), all())}, {"-7", one(7), xy(all(), all()), lost()}, {"-(x + y)", one(-18), xy(in(0, 9), in(0, 9)), xy(one(9), one(9))}, {"-a[x]", in(-4, 4), of(in(0, 9), one(1), in(0, 9), one(1)), of(one(0), one(1), in(0, 4), one(1))},
		// the least number is its own negation; beside another one the negations' Num is of all numbers, and c is met by the operand alone
		{"-x", one(minInt), xy(all(), one(1)), xy(one(minInt), one(1))}, {"-x", one(minInt), xy(in(minInt, minInt+1), one(1)), xy(one(minInt), one(1))}, {"-x", one(5), xy(in(minInt, minInt+1), one(1)), lost()}, {"-x", one(maxInt), xy(in(minInt, minInt+1), one(1)), xy(one(minInt+1), one(1))},
	})
}

func TestBackOfSums(t *testing.T) {
	ten := xy(in(0, 9), in(0, 9))
	holdBack(t, []backRow{
		{"x + y", one(15), ten, xy(in(6, 9), in(6, 9))}, {"x + y", in(-99, 99), ten, ten}, {"x + y", one(19), ten, lost()}, {"x + y", one(-1), ten, lost()}, {"x + y", one(18), ten, xy(one(9), one(9))}, {"x + y", in(-5, 0), ten, xy(one(0), one(0))}, {"x + y", no(), ten, lost()}, {"x + 3", in(5, 7), ten, xy(in(2, 4), in(0, 9))}, {"3 + y", in(5, 7), ten, xy(in(0, 9), in(2, 4))}, {"3 + 4", one(7), ten, ten}, {"3 + 4", one(8), ten, lost()}, {"x + 1", one(minInt), xy(all(), all()), xy(one(maxInt), all())}, {"x + 4", nu(0, 9, 3, 0), xy(all(), all()), xy(nu(-4, 5, 3, 2), all())},
		{"x - y", one(-9), ten, xy(one(0), one(9))}, {"x - y", one(9), ten, xy(one(9), one(0))}, {"x - y", in(7, 99), ten, xy(in(7, 9), in(0, 2))}, {"x - y", in(-9, 9), ten, ten}, {"x - y", one(10), ten, lost()}, {"x - y", one(-10), ten, lost()}, {"x - 1", in(0, 3), xy(all(), all()), xy(in(1, 4), all())}, {"7 - y", in(0, 3), ten, xy(in(0, 9), in(4, 7))}, {"x - 1", one(maxInt), xy(all(), all()), xy(one(minInt), all())},
		{"x + y + 5", one(23), ten, xy(one(9), one(9))}, {"x - (y + 5)", one(4), ten, xy(one(9), one(0))}, {"x + b[y]", one(9), of(in(0, 9), in(0, 9), one(0), in(5, 9)), of(in(0, 4), in(0, 2), one(0), in(5, 9))}, {"x + a[y]", one(9), of(in(0, 9), in(0, 9), in(5, 9), one(0)), of(in(0, 4), one(0), in(5, 9), one(0))}, {"b[x] + b[y]", all(), of(in(2, 9), in(-9, 0), one(0), one(0)), of(one(2), one(0), one(0), one(0))}, {"b[x] + b[y]", all(), of(in(2, 9), in(-9, -1), one(0), one(0)), lost()},
	})
}

func TestBackOfProducts(t *testing.T) {
	holdBack(t, []backRow{
		{"x * 3", in(30, 33), xy(in(0, 100), one(1)), xy(in(10, 11), one(1))}, {"3 * x", in(30, 33), xy(in(0, 100), one(1)), xy(in(10, 11), one(1))}, {"x * 3", all(), xy(in(0, 100), one(1)), xy(in(0, 100), one(1))}, {"x * 3", one(31), xy(in(0, 100), one(1)), lost()}, {"x * 3", in(301, 400), xy(in(0, 100), one(1)), lost()}, {"x * y", one(0), xy(in(0, 9), in(2, 4)), xy(one(0), in(2, 4))}, {"x * y", in(1, 99), xy(in(0, 9), in(0, 4)), xy(in(1, 9), in(1, 4))}, {"x * y", no(), xy(in(0, 9), in(0, 4)), lost()},
		{"x * 2", one(1), xy(all(), all()), lost()}, {"x * 3", one(1), xy(all(), all()), xy(one(-6148914691236517205), all())}, {"x * 0", one(0), xy(in(0, 9), one(1)), xy(in(0, 9), one(1))}, {"x * 0", one(1), xy(in(0, 9), one(1)), lost()},
	})
}

// 0 in the divisor: as an end, inside, alone, not at all.
func TestBackOfDivisions(t *testing.T) {
	holdBack(t, []backRow{
		{"x / 3", one(2), xy(all(), one(1)), xy(in(4, 8), one(1))}, {"x / 3", in(-9, 9), xy(in(0, 9), one(1)), xy(in(0, 9), one(1))}, {"x / 3", one(4), xy(in(0, 9), one(1)), lost()}, {"x / 3", no(), xy(in(0, 9), one(1)), lost()},
		{"x / y", in(3, 12), xy(one(12), in(1, 4)), xy(one(12), in(1, 4))}, {"x / y", in(3, 12), xy(one(12), in(0, 4)), xy(one(12), in(1, 4))}, {"x / y", in(-12, -3), xy(one(12), in(-4, 0)), xy(one(12), in(-4, -1))}, {"x / y", in(-12, 12), xy(one(12), in(-2, 2)), xy(one(12), in(-2, 2))}, {"x / y", all(), xy(one(12), one(0)), lost()}, {"x / y", all(), xy(one(12), in(0, 1)), xy(one(12), one(1))}, {"x / y", all(), xy(one(12), nu(0, 6, 6, 0)), xy(one(12), one(6))}, {"x / y", one(2), xy(one(12), nu(-6, 0, 6, 0)), lost()}, {"x / y", one(5), xy(in(0, 99), in(0, 2)), xy(in(4, 11), in(1, 2))}, {"x / 0", all(), xy(all(), all()), lost()}, {"x / (y - 1)", all(), xy(one(12), in(1, 4)), xy(one(12), in(2, 4))}, {"x / (y - 1)", all(), xy(one(12), one(1)), lost()},
		{"x / -1", one(minInt), xy(all(), all()), xy(all(), all())}, {"x / -1", one(5), xy(all(), all()), xy(one(-5), all())},
		{"x / a[0]", all(), of(one(12), one(1), in(0, 4), one(1)), of(one(12), one(1), in(1, 4), one(1))}, {"x / b[0]", all(), of(one(12), one(1), one(1), in(0, 4)), of(one(12), one(1), one(1), in(0, 4))},
	})
}

func TestBackOfRemainders(t *testing.T) {
	holdBack(t, []backRow{
		{"x % 4", one(3), xy(all(), one(1)), xy(nu(3, maxInt, 4, 3), one(1))}, {"x % 4", in(-3, 3), xy(in(0, 9), one(1)), xy(in(0, 9), one(1))}, {"x % 4", one(4), xy(in(0, 9), one(1)), lost()}, {"x % 4", one(-1), xy(in(0, 9), one(1)), lost()}, {"x % 4", no(), xy(in(0, 9), one(1)), lost()}, {"x % 4", one(0), xy(in(0, 9), one(1)), xy(nu(0, 8, 4, 0), one(1))}, {"x % 2", one(-1), xy(in(-9, 9), one(1)), xy(nu(-9, -1, 2, 1), one(1))},
		{"x % y", one(4), xy(in(0, 9), in(1, 5)), xy(nu(4, 9, 5, 4), one(5))}, {"x % y", one(4), xy(in(0, 9), in(0, 5)), xy(nu(4, 9, 5, 4), one(5))}, {"x % y", one(4), xy(in(0, 9), in(-5, 0)), xy(nu(4, 9, 5, 4), one(-5))}, {"x % y", one(4), xy(in(0, 9), in(-5, 5)), xy(in(4, 9), in(-5, 5))}, {"x % y", all(), xy(in(0, 9), one(0)), lost()}, {"x % y", one(4), xy(in(0, 9), in(0, 4)), lost()}, {"x % y", all(), xy(in(0, 9), in(0, 1)), xy(in(0, 9), one(1))}, {"x % y", in(0, 3), xy(in(0, 9), nu(0, 6, 6, 0)), xy(in(0, 9), one(6))}, {"x % 0", all(), xy(all(), all()), lost()},
	})
}

// One scalar on both sides: the right operand is gone back through in what the left one has left.
func TestBackOfOneScalarOnBothSides(t *testing.T) {
	with := func(x api.Num) api.Env { return xy(x, one(1)) }
	holdBack(t, []backRow{
		{"x + x", one(10), with(in(0, 9)), with(in(1, 9))}, {"x - x", one(9), with(in(0, 9)), lost()}, {"x - x", in(1, 9), with(in(0, 9)), with(in(1, 8))}, {"x - x", in(8, 9), with(in(0, 9)), lost()}, {"x - x", one(0), with(in(0, 9)), with(in(0, 9))}, {"x * x", in(1, 99), with(in(0, 9)), with(in(1, 9))}, {"x / x", all(), with(in(0, 9)), with(in(1, 9))}, {"x % x", all(), with(in(0, 9)), with(in(1, 9))},
		{"x - (x + 2)", in(4, 9), with(in(0, 9)), lost()}, {"(x - 2) - x", in(-6, -4), with(in(0, 9)), with(in(2, 7))}, {"(x - 2) - x", in(-10, -8), with(in(0, 9)), lost()}, {"b[x] + x", in(4, 9), of(in(0, 9), one(1), one(1), in(0, 3)), of(in(1, 2), one(1), one(1), in(0, 3))}, {"x + b[x]", in(4, 9), of(in(0, 9), one(1), one(1), in(0, 3)), of(in(1, 2), one(1), one(1), in(0, 3))}, {"b[x] - b[x - 2]", all(), with(in(0, 9)), with(one(2))}, {"b[x] - b[x - 3]", all(), with(in(0, 9)), lost()}, {"a[0] - a[0]", one(9), of(one(0), one(1), in(0, 9), one(1)), lost()}, {"x + y - x", one(5), xy(in(0, 9), in(0, 9)), xy(in(0, 9), in(0, 9))},
	})
}

func TestBackDeepAndLong(t *testing.T) {
	deep := api.MaxNest - 2
	with := func(x api.Num) api.Env { return xy(x, one(1)) }
	holdBack(t, []backRow{
		{strings.Repeat("(", deep) + "x" + strings.Repeat(" + 1)", deep), one(int64(deep) + 4), with(in(0, 9)), with(one(4))},
		{strings.Repeat("(1 + ", deep) + "x" + strings.Repeat(")", deep), one(int64(deep) + 4), with(in(0, 9)), with(one(4))},
		{strings.Repeat("(", deep) + "x" + strings.Repeat(" + 1)", deep), one(int64(deep) + 10), with(in(0, 9)), lost()},
		{strings.Repeat("-", deep) + "x", in(3, 5), with(in(0, 9)), with(in(3, 5))},
		{strings.Repeat("-", deep-1) + "x", in(-5, -3), with(in(0, 9)), with(in(3, 5))},
		{strings.Repeat("a[", api.MaxSites) + "x" + strings.Repeat("]", api.MaxSites), all(), of(in(-9, 9), one(1), in(-9, 9), one(1)), of(one(0), one(1), one(0), one(1))},
		{strings.Repeat("b[", api.MaxSites) + "x" + strings.Repeat("]", api.MaxSites), all(), with(in(-9, 9)), with(in(0, 2))},
		{balanced(6, "x", "+"), one(64 * 9), with(in(0, 9)), with(one(9))}, {balanced(6, "x", "+"), one(64*9 + 1), with(in(0, 9)), lost()},
	})
	p := mustText(t, variables+"x := "+balanced(7, "x", "+")+" + ("+balanced(4, "y", "-")+" * ("+strings.Repeat("-", 6)+"2));")
	if len(p.Nodes) != api.MaxNodes {
		t.Errorf("the long one has %d nodes", len(p.Nodes))
	}
	e := xy(in(0, 9), in(-3, 3))
	for _, c := range []api.Num{all(), one(1000), in(-5, 5), one(128 * 9), one(5000)} {
		wantBack(t, p, e, here, c, words{p}.back(e, here, c))
	}
}

// balanced is 2 to the depth equal parts with an operator between them.
func balanced(depth int, part, op string) string {
	if depth == 0 {
		return part
	}
	half := balanced(depth-1, part, op)
	return "(" + half + " " + op + " " + half + ")"
}
