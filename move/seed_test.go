package move

import (
	"math"
	"slices"
	"strings"
	"testing"

	"winnow/api"
)

// seedRow is a statement of the variables, a site of its first edge, the Env ahead of it, and what is left of that.
type seedRow struct {
	text   string
	site   int
	before api.Env
	wanted api.Env
}

func holdSeed(t *testing.T, rows []seedRow) {
	t.Helper()
	for _, r := range rows {
		p := mustText(t, variables+r.text)
		if got, code := Seed(p, 0, r.before, r.site); !alike(got, r.wanted) || code != api.OK {
			t.Errorf("P18.3: Seed of %s, %v and %d = %v, %v, want %v", r.text, r.before, r.site, got, code, r.wanted)
		}
	}
}

// Every site of every edge is taken there, and nowhere else.
func TestSitesThatAnEdgeHolds(t *testing.T) {
	p := mustText(t, everyEdge)
	held := heldThere()
	if len(edgesOf(t, p)) != len(held) {
		t.Fatalf("there are %d edges", len(edgesOf(t, p)))
	}
	alive := both(list(all()), list(all()))
	for edge, there := range held {
		wantHolds(t, p, edge, there...)
		for _, site := range []int{math.MinInt, -300, -1, 0, 1, 2, 3, 4, 5, 6, 7, 8, 9, 10, api.MaxSites, 1 << 40, math.MaxInt} {
			for _, e := range []api.Env{alive, both(list(one(0)), list(one(0))), lost(), both(list(no()), list(one(1)))} {
				if !slices.Contains(there, site) {
					refuseSeed(t, p, edge, e, site, api.ErrArg)
				} else if _, code := Seed(p, edge, e, site); code != api.OK {
					t.Errorf("P18.3: Seed along %d of %v at %d: %v", edge, e, site, code)
				}
			}
		}
	}
	for _, edge := range noEdges(t, p) {
		wantHolds(t, p, edge)
	}
}

// A block's sites aren't those of the condition ahead of it.
func TestHoldsOfNestedBlocks(t *testing.T) {
	p := mustText(t, variables+"while b[x] > 0 { if b[y] < 1 { a[x] := 1 / y; while a[0] == 2 { assert x % y == 0; } } else { x := b[0] + b[1]; } } assert true;")
	for edge, held := range [][]int{{0}, {0}, {1}, {1}, {2, 3}, {4}, {4}, {5, 6}, {7, 8}, {9}} {
		wantHolds(t, p, edge, held...)
		for site := -1; site < 11; site++ {
			if !slices.Contains(held, site) {
				refuseSeed(t, p, edge, xy(all(), all()), site, api.ErrArg)
			}
		}
	}
	// With the greatest number of sites, and in the rising order of their nodes, not of how deep they stand.
	q := mustText(t, variables+"a[b[b[x]]] := b[y] / b[x] % b[b[0] / b[1]] ;")
	wantHolds(t, q, 0, 0, 1, 2, 3, 4, 5, 6, 7, 8, 9, 10)
	full := mustText(t, variables+"assert b[x] + b[x] + b[x] + b[x] + b[x] + b[x] + b[x] + b[x] + b[x] + b[x] + b[x] < 0;")
	wantHolds(t, full, 0, 0, 1, 2, 3, 4, 5, 6, 7, 8, 9, 10, 11)
}

func TestSeedOfDivisions(t *testing.T) {
	ten := xy(in(-9, 9), in(-9, 9))
	holdSeed(t, []seedRow{
		{"x := 6 / y;", 0, ten, xy(in(-9, 9), one(0))}, {"x := 6 % y;", 0, ten, xy(in(-9, 9), one(0))}, {"x := 6 / y;", 0, xy(one(1), in(1, 9)), lost()}, {"x := 6 / y;", 0, xy(one(1), in(-9, -1)), lost()}, {"x := 6 / y;", 0, xy(one(1), in(0, 9)), xy(one(1), one(0))}, {"x := 6 / y;", 0, xy(one(1), nu(1, 9, 2, 1)), lost()}, {"x := x / 0;", 0, ten, ten}, {"x := x % 3;", 0, ten, lost()}, {"x := x / (y - 4);", 0, ten, xy(in(-9, 9), one(4))}, {"x := x / (x - y);", 0, xy(in(0, 4), in(3, 9)), xy(in(3, 4), in(3, 4))}, {"x := 1 / a[0];", 0, of(one(1), one(1), in(0, 4), one(1)), of(one(1), one(1), one(0), one(1))}, {"x := 1 / b[0];", 0, of(one(1), one(1), one(1), in(0, 4)), of(one(1), one(1), one(1), in(0, 4))}, {"x := 1 / b[0];", 0, of(one(1), one(1), one(1), in(1, 4)), lost()},
		// inside one another, on the left and on the right: 0 is the outer one's site
		{"x := 6 / (8 / y);", 0, ten, ten}, {"x := 6 / (x / 3);", 0, ten, xy(in(-2, 2), in(-9, 9))}, {"x := 6 / (8 / y);", 1, ten, xy(in(-9, 9), one(0))}, {"x := 6 / x / y;", 0, ten, xy(in(-9, 9), one(0))}, {"x := 6 / x / y;", 1, ten, xy(one(0), in(-9, 9))}, {"x := (6 / x) * (6 / y);", 0, ten, xy(one(0), in(-9, 9))}, {"x := (6 / x) * (6 / y);", 1, ten, xy(in(-9, 9), one(0))}, {"x := -(6 / x - 6 % y);", 1, ten, xy(in(-9, 9), one(0))}, {"x := 6 / (y * b[x]);", 1, ten, of(in(-9, 9), in(-9, 9), all(), all())}, {"x := 6 / y;", 0, lost(), lost()},
	})
}

// An index is below 0 alone, above alone, both, neither.
func TestSeedOfLoads(t *testing.T) {
	with := func(y api.Num) api.Env { return of(in(0, 9), y, one(0), in(0, 4)) }
	holdSeed(t, []seedRow{
		{"x := b[y];", 0, with(in(-4, 1)), with(in(-4, -1))}, {"x := b[y];", 0, with(in(1, 4)), with(in(3, 4))}, {"x := b[y];", 0, with(in(-4, 4)), with(in(-4, 4))}, {"x := b[y];", 0, with(nu(-1, 3, 4, 3)), with(nu(-1, 3, 4, 3))}, {"x := b[y];", 0, with(in(-1, 3)), with(nu(-1, 3, 4, 3))}, {"x := b[y];", 0, with(in(0, 2)), lost()}, {"x := b[y];", 0, with(in(0, 3)), with(one(3))}, {"x := b[y];", 0, with(in(-1, 2)), with(one(-1))}, {"x := b[y];", 0, with(all()), with(all())}, {"x := b[y];", 0, with(upTo(2)), with(upTo(-1))}, {"x := b[y];", 0, with(from(0)), with(from(3))}, {"x := b[3];", 0, with(one(1)), with(one(1))}, {"x := b[2];", 0, with(one(1)), lost()}, {"x := b[-1];", 0, with(one(1)), with(one(1))}, {"x := a[y];", 0, with(in(0, 4)), with(in(1, 4))}, {"x := a[y];", 0, with(in(-4, 0)), with(in(-4, -1))}, {"x := b[y - 5];", 0, with(in(4, 7)), with(one(4))},
		// inside one another: 0 is the outer one's site
		{"x := b[b[y]];", 0, with(in(-4, 4)), with(in(0, 2))}, {"x := b[b[y]];", 1, with(in(-4, 4)), with(in(-4, 4))}, {"x := b[b[y]];", 1, with(in(1, 4)), with(in(3, 4))}, {"x := b[6 / y];", 0, with(in(0, 9)), with(in(1, 9))}, {"x := b[6 / y];", 1, with(in(0, 9)), with(one(0))}, {"x := 6 / b[y];", 0, with(in(0, 9)), with(in(0, 2))}, {"x := 6 / b[y];", 1, with(in(0, 9)), with(in(3, 9))}, {"x := b[x] + b[y];", 0, with(in(0, 4)), of(in(3, 9), in(0, 4), one(0), in(0, 4))}, {"x := b[x] + b[y];", 1, with(in(0, 4)), with(in(3, 4))}, {"x := b[a[0] - 1];", 0, with(one(1)), with(one(1))}, {"x := a[a[0]];", 0, of(one(1), one(1), in(0, 4), one(1)), of(one(1), one(1), in(1, 4), one(1))},
	})
}

func TestSeedOfStores(t *testing.T) {
	with := func(x, y api.Num) api.Env { return of(x, y, in(0, 4), in(0, 4)) }
	some := with(in(-4, 4), in(0, 9))
	holdSeed(t, []seedRow{
		// its own
		{"b[x] := y;", 0, some, some}, {"b[x] := y;", 0, with(in(-4, 1), in(0, 9)), with(in(-4, -1), in(0, 9))}, {"b[x] := y;", 0, with(in(1, 4), in(0, 9)), with(in(3, 4), in(0, 9))}, {"b[x] := y;", 0, with(in(-1, 3), in(0, 9)), with(nu(-1, 3, 4, 3), in(0, 9))}, {"b[x] := y;", 0, with(in(0, 2), in(0, 9)), lost()}, {"a[x] := y;", 0, with(in(0, 4), in(0, 9)), with(in(1, 4), in(0, 9))}, {"b[3] := y;", 0, some, some}, {"b[x] := 1 / 0;", 0, with(in(1, 4), in(0, 9)), with(in(3, 4), in(0, 9))}, {"b[6 / y] := 1;", 0, with(one(0), in(0, 9)), with(one(0), in(1, 9))}, {"a[a[0]] := 5;", 0, some, of(in(-4, 4), in(0, 9), in(1, 4), in(0, 4))}, {"b[b[x]] := 5;", 0, some, with(in(0, 2), in(0, 9))},
		// one in its index
		{"b[6 / y] := 1;", 1, some, with(in(-4, 4), one(0))}, {"b[b[x]] := 1 / y;", 1, with(in(1, 4), in(0, 9)), with(in(3, 4), in(0, 9))}, {"b[b[x] / y] := 1 / y;", 1, some, with(in(-4, 4), one(0))}, {"b[b[x] / y] := 1 / y;", 2, with(in(1, 4), in(0, 9)), with(in(3, 4), in(0, 9))}, {"b[x + 6 / x] := 1;", 1, some, with(one(0), in(0, 9))},
		// one in its value, which is evaluated where the index is inside
		{"b[x] := 6 / y;", 1, some, with(in(0, 2), one(0))}, {"b[x] := 6 / y;", 1, with(in(3, 4), in(0, 9)), lost()}, {"b[x] := 6 / x;", 1, some, with(one(0), in(0, 9))}, {"b[x] := 6 / x;", 1, with(in(1, 4), one(0)), lost()}, {"b[x] := 6 / (x - 3);", 1, some, lost()}, {"b[x] := b[x];", 1, some, lost()}, {"b[x] := b[x + 1];", 1, some, with(one(2), in(0, 9))}, {"b[x] := b[x - 1];", 1, some, with(one(0), in(0, 9))}, {"a[x] := b[y];", 1, some, with(one(0), in(3, 9))}, {"b[b[x]] := 6 / y;", 2, some, with(in(0, 2), one(0))}, {"a[a[0]] := 6 / a[0];", 1, some, lost()}, {"a[a[0]] := 6 / a[0];", 2, some, of(in(-4, 4), in(0, 9), one(0), in(0, 4))}, {"a[a[0]] := 6 / (a[0] - 1);", 2, some, lost()}, {"b[b[x] / y] := 1 / y;", 3, some, lost()},
	})
}

func TestSeedOfAsserts(t *testing.T) {
	with := func(x, y api.Num) api.Env { return of(x, y, one(9), in(0, 4)) }
	some := with(in(0, 9), in(0, 9))
	holdSeed(t, []seedRow{
		{"assert x < 5;", 0, some, with(in(5, 9), in(0, 9))}, {"assert true;", 0, some, lost()}, {"assert false;", 0, some, some}, {"assert x < 10;", 0, some, lost()}, {"assert x == y;", 0, with(in(0, 9), one(0)), with(in(1, 9), one(0))}, {"assert !(x < 5);", 0, some, with(in(0, 4), in(0, 9))}, {"assert x < 5 && y < 3;", 0, with(in(0, 4), in(0, 9)), with(in(0, 4), in(3, 9))}, {"assert x < 5 || y < 3;", 0, some, with(in(5, 9), in(3, 9))}, {"assert 6 / y > 9;", 0, some, with(in(0, 9), in(1, 9))}, {"assert 1 / 0 == 0 || true;", 0, some, lost()}, {"assert b[x] < 9;", 0, some, lost()}, {"assert b[x] < 2;", 0, some, with(in(0, 2), in(0, 9))},
		{"assert 6 / y > 9;", 1, some, with(in(0, 9), one(0))}, {"assert 1 / 0 == 0 || true;", 1, some, some}, {"assert b[x] < 2;", 1, some, with(in(3, 9), in(0, 9))}, {"assert x < b[y];", 1, some, with(in(0, 9), in(3, 9))}, {"assert b[x] < b[y];", 2, some, with(in(0, 9), in(3, 9))}, {"assert !(!(6 / y < 2));", 1, some, with(in(0, 9), one(0))},
	})
}

// On the right of && and || only what the left one leaves comes to the site.
func TestSeedBehindConditions(t *testing.T) {
	with := func(x, y api.Num) api.Env { return of(x, y, one(9), in(0, 4)) }
	some := with(in(0, 9), in(0, 9))
	for _, r := range []struct {
		condition string
		nth       int // of the condition's own sites
		wanted    api.Env
	}{
		{"6 / y > 0 && x < 5", 0, with(in(0, 9), one(0))}, {"6 / y > 0 || x < 5", 0, with(in(0, 9), one(0))}, {"x < 5 && 6 / y > 0", 0, with(in(0, 4), one(0))}, {"x < 5 || 6 / y > 0", 0, with(in(5, 9), one(0))}, {"x != 0 && 6 / x > 0", 0, lost()}, {"x == 0 || 6 / x > 0", 0, lost()}, {"x == 0 && 6 / x > 0", 0, with(one(0), in(0, 9))}, {"x < 0 && 6 / y > 0", 0, lost()}, {"x >= 0 || 6 / y > 0", 0, lost()}, {"true && 6 / y > 0", 0, with(in(0, 9), one(0))}, {"false && 6 / y > 0", 0, lost()}, {"false || 6 / y > 0", 0, with(in(0, 9), one(0))}, {"true || 6 / y > 0", 0, lost()},
		{"x < 5 && b[x] > 0", 0, with(in(3, 4), in(0, 9))}, {"x > 2 || b[x] > 0", 0, lost()}, {"x < 3 || b[x] > 0", 0, with(in(3, 9), in(0, 9))}, {"!(x < 5) && 6 / y > 0", 0, with(in(5, 9), one(0))}, {"!(x < 5 && 6 / y > 0)", 0, with(in(0, 4), one(0))}, {"x < 5 && !(6 / y > 0)", 0, with(in(0, 4), one(0))},
		// nested on the left and on the right
		{"x < 5 && y < 3 && 6 / y > 0", 0, with(in(0, 4), one(0))}, {"x < 5 && (y < 3 && 6 / y > 0)", 0, with(in(0, 4), one(0))}, {"x < 5 && 6 / y > 0 && y < 3", 0, with(in(0, 4), one(0))}, {"x < 5 && (6 / y > 0 && y < 3)", 0, with(in(0, 4), one(0))}, {"x < 5 || (y > 3 && b[y] > 0)", 0, with(in(5, 9), in(4, 9))}, {"x < 5 && (y > 3 || b[y] > 0)", 0, with(in(0, 4), one(3))}, {"(x < 5 || y > 3) && b[y] > 0", 0, with(in(0, 9), in(3, 9))}, {"(x < 5 && y > 3) || b[y] > 0", 0, with(in(0, 9), in(3, 9))}, {"x < 5 && x > 5 && 6 / y > 0", 0, lost()}, {"x < 5 || x >= 5 || 6 / y > 0", 0, lost()}, {"x > 3 && (x < 8 && (x != 5 && 6 / (x - 5) > 0))", 0, with(one(5), in(0, 9))}, {"x > 3 && (x < 5 && 6 / (x - 5) > 0)", 0, lost()},
		// what the left one's own sites leave comes to the right one's
		{"6 / y > 0 && b[x] > 0", 0, with(in(0, 9), one(0))}, {"6 / y > 0 && b[x] > 0", 1, with(in(3, 9), in(1, 9))}, {"y / 2 > 3 && b[x] > 0", 1, with(in(3, 9), in(7, 9))}, {"y / 2 > 3 || b[x] > 0", 1, with(in(3, 9), in(0, 7))}, {"b[x] >= 0 && 6 / x > 0", 1, with(one(0), in(0, 9))}, {"b[x] >= 0 && 6 / (x - 3) > 0", 1, lost()}, {"6 / x > 0 && (6 / y > 0 && b[x - y] > 0)", 2, with(in(1, 9), in(1, 9))},
		// within a comparison and a sum the left one leaves all
		{"6 / x > 6 / y", 1, with(in(0, 9), one(0))}, {"x - 6 / y > 0", 0, with(in(0, 9), one(0))}, {"b[x] + 6 / x > 0", 1, with(one(0), in(0, 9))}, {"b[x] + 6 / (x - 3) > 0", 1, with(one(3), in(0, 9))},
	} {
		p := mustText(t, variables+"assert "+r.condition+";")
		wantSeed(t, p, 0, some, 1+r.nth, r.wanted)
		for _, statement := range []string{"if %s { }", "if %s { skip; } else { x := 1 / 0; }", "while %s { }", "while %s { x := 1 / 0; }"} {
			// Both edges hold the site, and reach it alike.
			q := mustText(t, variables+strings.Replace(statement, "%s", r.condition, 1))
			wantSeed(t, q, 0, some, r.nth, r.wanted)
			wantSeed(t, q, 1, some, r.nth, r.wanted)
		}
		if t.Failed() {
			t.Fatalf("that was %s", r.condition)
		}
	}
}
