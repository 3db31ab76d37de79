package aeval

import (
	"fmt"
	"slices"
	"strings"
	"testing"

	"winnow/api"
	"winnow/num"
)

// row is an expression, the Nums of the scalar x and the array a of 2, and what Eval has to answer.
type row struct {
	text  string
	x, a  api.Num
	value api.Num
	sites []int
}

func (r row) hold(t *testing.T) {
	t.Helper()
	p := mustText(t, "var x; array a[2]; x := "+r.text+";")
	if value, told, code := Eval(p, xa(r.x, r.a), 3); value != r.value || !slices.Equal(told, r.sites) || code != api.OK {
		t.Errorf("P16.1: %s with x %v and a %v = %v, %v, %v, want %v, %v", r.text, r.x, r.a, value, told, code, r.value, r.sites)
	}
}

func sites(l ...int) []int { return l }

func TestNumbersAndScalars(t *testing.T) {
	for _, r := range []row{
		{"0", all(), one(0), one(0), nil}, {"7", one(3), one(0), one(7), nil}, {"9223372036854775807", one(3), one(0), one(maxInt), nil},
		{"-9223372036854775807 - 1", one(3), one(0), one(minInt), nil},
		{"x", all(), one(0), all(), nil}, {"x", one(minInt), one(0), one(minInt), nil}, {"x", one(maxInt), one(0), one(maxInt), nil}, {"x", nu(2, 8, 3, 2), one(0), nu(2, 8, 3, 2), nil},
		// otherwise than in the normal form
		{"x", nu(0, 9, 3, 5), one(0), nu(2, 8, 3, 2), nil}, {"x", nu(0, 9, 0, 4), one(0), one(4), nil}, {"x", api.Num{}, one(0), one(0), nil}, {"x", nu(5, 5, 1, 0), one(0), one(5), nil}, {"x", nu(1, 3, 4, 2), one(0), one(2), nil},
		{"a[0]", one(0), nu(1, 5, 2, 6), nu(2, 4, 2, 0), nil}, {"a[0]", one(0), nu(5, 5, 1, 0), one(5), nil}, {"a[x]", nu(0, 3, 4, 1), nu(0, 9, 0, 4), one(4), nil}, {"a[x]", nu(-3, 3, 5, 1), nu(0, 9, 0, 4), one(4), nil},
		{"1 / x", nu(-1, 2, 3, 1), one(0), one(1), nil}, {"1 / x", nu(-2, 2, 3, 6), one(0), no(), sites(0)}, {"6 / x", nu(0, 3, 2, 1), one(0), in(2, 6), nil},
	} {
		r.hold(t)
	}
	// Which scalar and which array is meant the name tells.
	p := mustText(t, "var x; array a[1]; var y; array b[9]; x := y + b[8] - a[0] - x;")
	e := both(list(one(1000), one(100)), list(one(10), one(1)))
	for place, want := range map[int]int64{5: 100 + 1 - 10 - 1000, 6: 100 + 1 - 10, 7: 101, 8: 100, 9: 1, 10: 8, 11: 10, 12: 0, 13: 1000} {
		wantEval(t, p, e, place, one(want))
	}
}

func TestLoads(t *testing.T) {
	some := in(5, 9)
	for _, r := range []row{
		// one index, at and beside both ends
		{"a[x]", one(-1), some, no(), sites(0)}, {"a[x]", one(0), some, some, nil}, {"a[x]", one(1), some, some, nil}, {"a[x]", one(2), some, no(), sites(0)}, {"a[x]", one(minInt), some, no(), sites(0)}, {"a[x]", one(maxInt), some, no(), sites(0)},
		{"a[0]", one(0), some, some, nil}, {"a[1]", one(0), some, some, nil}, {"a[2]", one(0), some, no(), sites(0)}, {"a[-1]", one(0), some, no(), sites(0)}, {"a[9223372036854775807 + 1]", one(0), some, no(), sites(0)},
		// partly and wholly outside
		{"a[x]", in(0, 1), some, some, nil}, {"a[x]", in(-1, 0), some, some, sites(0)}, {"a[x]", in(-1, 1), some, some, sites(0)}, {"a[x]", in(1, 2), some, some, sites(0)}, {"a[x]", in(0, 2), some, some, sites(0)}, {"a[x]", in(-1, 2), some, some, sites(0)}, {"a[x]", all(), some, some, sites(0)}, {"a[x]", in(2, 3), some, no(), sites(0)}, {"a[x]", in(-2, -1), some, no(), sites(0)}, {"a[x]", in(minInt, 0), some, some, sites(0)}, {"a[x]", in(1, maxInt), some, some, sites(0)}, {"a[x]", in(minInt, -1), some, no(), sites(0)}, {"a[x]", in(2, maxInt), some, no(), sites(0)},
		// classes
		{"a[x]", nu(-3, 7, 5, 2), some, no(), sites(0)}, {"a[x]", nu(-1, 2, 3, 2), some, no(), sites(0)}, {"a[x]", nu(-4, 6, 5, 1), some, some, sites(0)}, {"a[x]", nu(minInt, maxInt-1, 2, 0), some, some, sites(0)}, {"a[x]", nu(-6, 9, 5, 4), some, no(), sites(0)},
		// what the array has
		{"a[x]", in(1, 2), one(3), one(3), sites(0)}, {"a[x]", one(0), all(), all(), nil}, {"a[x]", one(1), nu(1, 9, 4, 1), nu(1, 9, 4, 1), nil}, {"a[x]", one(1), one(minInt), one(minInt), nil},
		// an index that is none: the load isn't told beside the index' own
		{"a[1 / x]", one(0), some, no(), sites(1)}, {"a[a[x]]", one(2), some, no(), sites(1)}, {"a[1 % x + 9]", one(0), some, no(), sites(1)}, {"a[a[a[x]]]", one(2), some, no(), sites(2)},
		// sites in the index and its own
		{"a[a[x]]", in(0, 2), some, no(), sites(0, 1)}, {"a[a[x]]", in(0, 1), some, no(), sites(0)}, {"a[a[x]]", in(0, 2), in(0, 1), in(0, 1), sites(1)}, {"a[a[x]]", in(0, 1), in(0, 5), in(0, 5), sites(0)}, {"a[4 / x]", in(0, 4), some, some, sites(0, 1)}, {"a[1 / x]", in(0, 4), some, some, sites(1)},
	} {
		r.hold(t)
	}
}

// The length of the array has its say, from 1 to the greatest.
func TestLoadsOfEachLength(t *testing.T) {
	for length := int64(1); length <= api.MaxLength; length++ {
		p := mustText(t, fmt.Sprintf("var x; array b[3]; array a[%d]; x := a[x];", length))
		with := func(x api.Num) api.Env { return both(list(x), list(one(8), one(9))) }
		wantEval(t, p, with(one(length-1)), 4, one(9))
		wantEval(t, p, with(one(length)), 4, no(), 0)
		wantEval(t, p, with(num.Range(0, length-1)), 4, one(9))
		wantEval(t, p, with(in(0, length)), 4, one(9), 0)
		wantEval(t, p, with(in(-1, length-1)), 4, one(9), 0)
		wantEval(t, p, with(in(length, maxInt)), 4, no(), 0)
	}
}

// operators are all of two numbers.
func operators() map[string]api.Op {
	return map[string]api.Op{"+": api.OpAdd, "-": api.OpSub, "*": api.OpMul, "/": api.OpDiv, "%": api.OpRem}
}

// divides is 1 of an operator that is a site, else 0.
func divides(op api.Op) int {
	if op == api.OpDiv || op == api.OpRem {
		return 1
	}
	return 0
}

// A left one that is none: the right one's sites aren't told, nor the operator's own. A right one that is none: both sides' sites are, and not its own.
func TestOperandsThatAreNone(t *testing.T) {
	for sign, op := range operators() {
		own := divides(op)
		left := own // the first site on the left
		row{"a[x] " + sign + " (1 / (x - 5))", one(5), one(3), no(), sites(left)}.hold(t)
		row{"a[x] " + sign + " a[9]", one(5), one(3), no(), sites(left)}.hold(t)
		row{"a[x] " + sign + " 0", one(5), one(3), no(), sites(left)}.hold(t)
		row{"(1 / x) " + sign + " (1 / x)", one(0), one(3), no(), sites(left)}.hold(t)
		row{"x " + sign + " a[x]", one(5), one(3), no(), sites(left)}.hold(t)
		row{"x " + sign + " (1 / x)", one(0), one(3), no(), sites(left)}.hold(t)
		row{"a[x] " + sign + " a[x + 2]", in(-1, 0), one(3), wantApplied(t, op, one(3), one(3)), sites(left, left+1)}.hold(t)
		row{"a[x] " + sign + " a[x + 3]", in(-1, 0), one(3), no(), sites(left, left+1)}.hold(t)
		row{"(a[x] + a[7]) " + sign + " a[x]", in(1, 2), one(3), no(), sites(left, left+1)}.hold(t)
	}
	row{"-a[x]", one(2), one(3), no(), sites(0)}.hold(t)
	row{"--(1 % x)", one(0), one(3), no(), sites(0)}.hold(t)
	row{"-(7 - a[x] - 1 / 0)", one(2), one(3), no(), sites(0)}.hold(t)
}

func wantApplied(t *testing.T, op api.Op, a, b api.Num) api.Num {
	t.Helper()
	value, code := num.Apply(op, a, b)
	if code != api.OK {
		t.Fatalf("Apply(%d): %v", op, code)
	}
	return value
}

// Each operator is num.Apply of its operands, the left one first.
func TestOperators(t *testing.T) {
	nums := []api.Num{one(0), one(1), one(-1), one(7), one(minInt), one(maxInt), all(), in(0, 3), in(-3, 0), in(-2, 5), in(1, 9), nu(-8, 8, 4, 0), nu(-7, 9, 4, 1), in(minInt, -1), in(maxInt-1, maxInt), nu(minInt, maxInt-1, 2, 0)}
	for sign, op := range operators() {
		p := mustText(t, "var x; var y; x := x "+sign+" y;")
		for _, a := range nums {
			for _, b := range nums {
				var told []int
				if divides(op) == 1 && num.Has(b, 0) {
					told = sites(0)
				}
				wantEval(t, p, both(list(a, b), nil), 3, wantApplied(t, op, a, b), told...)
			}
		}
	}
	p := mustText(t, "var x; x := -x;")
	for _, a := range nums {
		wantEval(t, p, both(list(a), nil), 2, wantApplied(t, api.OpNeg, a, one(0)))
	}
	for _, r := range []row{
		{"x + 1", one(maxInt), one(0), one(minInt), nil}, {"x - 1", one(minInt), one(0), one(maxInt), nil}, {"x * 2", one(maxInt), one(0), one(-2), nil}, {"x / -1", one(minInt), one(0), one(minInt), nil}, {"x % -1", one(minInt), one(0), one(0), nil}, {"-x", one(minInt), one(0), one(minInt), nil}, {"-x", in(minInt, minInt+1), one(0), all(), nil},
		{"x - 3", one(10), one(0), one(7), nil}, {"3 - x", one(10), one(0), one(-7), nil}, {"x / 3", one(10), one(0), one(3), nil}, {"3 / x", one(10), one(0), one(0), nil}, {"x % 3", one(-10), one(0), one(-1), nil}, {"3 % x", one(-10), one(0), one(3), nil},
		{"x - 3 - 2", one(10), one(0), one(5), nil}, {"x - (3 - 2)", one(10), one(0), one(9), nil}, {"x * 4", all(), one(0), nu(minInt, maxInt-3, 4, 0), nil},
	} {
		r.hold(t)
	}
}

// 0 in the divisor: not at all, at an end, inside, alone.
func TestDivisors(t *testing.T) {
	for _, r := range []row{
		{"12 / x", in(1, 3), one(0), in(4, 12), nil}, {"12 / x", in(-3, -1), one(0), in(-12, -4), nil}, {"12 / x", in(0, 3), one(0), in(4, 12), sites(0)}, {"12 / x", in(-3, 0), one(0), in(-12, -4), sites(0)}, {"12 / x", in(-3, 3), one(0), in(-12, 12), sites(0)}, {"12 / x", one(0), one(0), no(), sites(0)},
		{"12 / x", nu(-3, 3, 2, 1), one(0), in(-12, 12), nil}, {"12 / x", nu(0, 6, 6, 0), one(0), one(2), sites(0)}, {"12 / x", nu(-6, 0, 6, 0), one(0), one(-2), sites(0)}, {"12 / x", all(), one(0), in(-12, 12), sites(0)}, {"12 / x", in(0, 1), one(0), one(12), sites(0)},
		{"12 % x", in(1, 3), one(0), in(0, 2), nil}, {"12 % x", in(0, 1), one(0), one(0), sites(0)}, {"12 % x", one(0), one(0), no(), sites(0)}, {"7 % x", one(0), one(0), no(), sites(0)}, {"13 % x", nu(0, 6, 6, 0), one(0), one(1), sites(0)}, {"13 % x", nu(-6, 0, 6, 0), one(0), one(1), sites(0)}, {"13 % x", nu(-6, 6, 12, 6), one(0), one(1), nil},
		{"0 / x", one(0), one(0), no(), sites(0)}, {"0 / x", in(0, 9), one(0), one(0), sites(0)}, {"x / 0", one(0), one(0), no(), sites(0)}, {"x % 0", all(), one(0), no(), sites(0)}, {"x / a[0]", one(8), in(0, 2), in(4, 8), sites(0)}, {"x / a[x]", in(0, 2), in(0, 2), in(0, 2), sites(0, 1)},
	} {
		r.hold(t)
	}
}

// Sites inside and beside one another are told rising, each once; a node's own stands ahead of those inside it.
func TestSitesRise(t *testing.T) {
	for _, r := range []row{
		{"x / (x / (x / x))", in(0, 1), one(0), in(0, 1), sites(0, 1, 2)}, {"x / x / x / x", in(0, 1), one(0), in(0, 1), sites(0, 1, 2)}, {"(x / x) % (x % x)", in(0, 2), one(0), one(0), sites(0, 1, 2)},
		{"a[x] + a[x] + a[x]", in(0, 2), one(4), one(12), sites(0, 1, 2)}, {"a[a[a[x]]]", in(0, 2), in(0, 2), in(0, 2), sites(0, 1, 2)}, {"a[x / x] / a[x % x]", in(0, 2), in(0, 2), in(0, 2), sites(0, 1, 2, 4)},
		{"a[0] / a[x]", in(0, 2), one(4), one(1), sites(2)}, {"a[x] / a[0]", in(0, 2), one(4), one(1), sites(1)}, {"a[x] / a[0]", in(0, 2), in(0, 4), in(0, 4), sites(0, 1)}, {"1 / 1 + 1 / x + 1 / 1", in(0, 1), one(0), one(3), sites(1)},
	} {
		r.hold(t)
	}
	// Sites of other statements, and of the rest of this one, aren't told, but have their numbers.
	p := mustText(t, "var x; array a[2]; assert 1 / 0 == 1; a[9] := a[9] / (1 / x); x := 1 / 0;")
	e := xa(in(0, 1), in(5, 6))
	for place, node := range p.Nodes {
		if node.Kind == api.KBinary && p.SiteOf[place] == 5 {
			wantEval(t, p, e, place, one(1), 5)
		}
		if node.Kind == api.KBinary && p.SiteOf[place] == 3 {
			wantEval(t, p, e, place, no(), 4)
		}
	}
}

func TestDeepAndLong(t *testing.T) {
	// The greatest depth, downwards on the left, on the right, and through signs and indices.
	deep := api.MaxNest - 2
	row{strings.Repeat("(", deep) + "x" + strings.Repeat(" + 1)", deep), in(0, 9), one(0), in(int64(deep), int64(deep)+9), nil}.hold(t)
	row{strings.Repeat("(1 + ", deep) + "x" + strings.Repeat(")", deep), in(0, 9), one(0), in(int64(deep), int64(deep)+9), nil}.hold(t)
	row{strings.Repeat("-", deep) + "x", in(0, 9), one(0), in(0, 9), nil}.hold(t)
	row{strings.Repeat("-", deep-1) + "x", in(0, 9), one(0), in(-9, 0), nil}.hold(t)
	inner := strings.Repeat("a[", api.MaxSites) + "x" + strings.Repeat("]", api.MaxSites)
	row{inner, one(1), in(0, 1), in(0, 1), nil}.hold(t)
	row{inner, one(1), in(0, 2), in(0, 2), sites(0, 1, 2, 3, 4, 5, 6, 7, 8, 9, 10)}.hold(t)
	row{inner, in(1, 2), in(0, 2), in(0, 2), sites(0, 1, 2, 3, 4, 5, 6, 7, 8, 9, 10, 11)}.hold(t)
	row{inner, one(2), in(0, 2), no(), sites(11)}.hold(t)
	row{inner, one(1), one(2), no(), sites(10)}.hold(t)
	row{strings.Repeat("x / ", api.MaxSites) + "x", one(0), one(0), no(), sites(11)}.hold(t)
	row{strings.Repeat("1 / (", api.MaxSites) + "x" + strings.Repeat(")", api.MaxSites), one(0), one(0), no(), sites(11)}.hold(t)
	long := balanced(7, "x") + " + (" + balanced(4, "2") + " + (3 + 4) * ----5)"
	if p := mustText(t, "var x; array a[2]; x := "+long+";"); len(p.Nodes) != api.MaxNodes {
		t.Errorf("the long one has %d nodes", len(p.Nodes))
	}
	row{long, in(0, 9), one(0), in(32+35, 32+35+128*9), nil}.hold(t)
	p := mustText(t, "var x; x := "+balanced(7, "x")+"; x := 2 * (3 - x);")
	wantEval(t, p, both(list(in(-1, 1)), nil), 2, in(-128, 128))
	wantEval(t, p, both(list(in(-1, 1)), nil), len(p.Nodes)-5, nu(4, 8, 2, 0))
	wantEval(t, p, both(list(in(-1, 1)), nil), len(p.Nodes)-1, in(-1, 1))
}

// balanced is a sum of 2 to the depth equal parts.
func balanced(depth int, part string) string {
	if depth == 0 {
		return part
	}
	half := balanced(depth-1, part)
	return "(" + half + " + " + half + ")"
}
