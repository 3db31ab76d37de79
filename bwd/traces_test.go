package bwd

import (
	"testing"

	"winnow/api"
	"winnow/num"
)

// P23.1: a sweep goes from the order's last element to its first: one application a vertex brings the Seed to the entry in the first sweep, and as many tell in the second that nothing changes.
func TestDirectionByHand(t *testing.T) {
	p := mustText(t, "var x; skip; skip; skip; assert x != 0;")
	want := except(filled(5, vars(is(0))), 4, lost())
	for narrow, applications := range []int{8, 12, 12, 12} {
		c := api.Config{Cap: 1, Narrow: narrow}
		wantRun(t, p, c, tops(t, p, c), 0, want, applications)
	}
}

// P23.1: an edge that holds the site has one application for the Seed, and one more for the Pre where the other end isn't dead, whatever they tell.
func TestSeedAndPreByHand(t *testing.T) {
	p := mustText(t, "var x; while true { assert x > 0; }")
	want := api.Table{vars(upTo(0)), vars(upTo(0)), lost()}
	// Sweeps of 2, and 3: by the assert nothing comes from the head.
	wantRun(t, p, api.Config{Cap: 1}, tops(t, p, plain()), 0, want, 5)
	wantRun(t, p, plain(), tops(t, p, plain()), 0, want, 8)
	// Both edges of a condition hold its sites. Sweeps of 2 Seeds, 4 (the head leaps), 4 (all numbers, as one may wrap), and 4.
	p = mustText(t, "var x; while 6 / x > 1 { x := x - 1; }")
	any := vars(num.Top())
	want = api.Table{any, any, lost()}
	wantRun(t, p, api.Config{Cap: 1}, tops(t, p, plain()), 0, want, 14)
	wantRun(t, p, plain(), tops(t, p, plain()), 0, want, 18)
	// Within a table the head leaps beyond it as well, and is cut: where it goes on from, and behind the last sweep.
	u := api.Table{vars(in(0, 9)), vars(in(1, 9)), any}
	want = api.Table{vars(in(0, 9)), vars(in(1, 9)), lost()}
	wantRun(t, p, api.Config{Cap: 1}, u, 0, want, 14)
	wantRun(t, p, plain(), u, 0, want, 18)
}

// P23.1: a vertex whose Env in the table is dead, by its normal form, has no application, and none leads to it.
func TestDeadVerticesByHand(t *testing.T) {
	p := mustText(t, short)
	any := vars(num.Top())
	for _, none := range []api.Env{lost(), vars(num.Bot()), vars(raw(1, 0, 1, 0)), vars(raw(4, 6, 4, 3)), {Dead: true, Vars: list(is(1), is(2))}} {
		wantRun(t, p, plain(), api.Table{none, any, any}, 0, api.Table{lost(), vars(upTo(0)), lost()}, 3)
		wantRun(t, p, plain(), api.Table{any, none, any}, 0, filled(3, lost()), 0)
		wantRun(t, p, plain(), api.Table{any, any, none}, 0, api.Table{any, vars(upTo(0)), lost()}, 6)
		wantRun(t, p, plain(), api.Table{none, none, none}, 0, filled(3, lost()), 0)
	}
}

// P23.1: a row of steps within other tables, some of whose Envs aren't in their normal form.
func TestTablesByHand(t *testing.T) {
	p := mustText(t, short)
	z, any, few := vars(is(0)), vars(num.Top()), vars(in(-5, 5))
	threes := vars(num.Make(api.Ival{Lo: -7, Hi: 0}, api.Cong{M: 4, R: 1}))
	for _, row := range []struct {
		u, want      api.Table
		applications int
	}{
		{api.Table{any, any, any}, api.Table{any, vars(upTo(0)), lost()}, 6},
		{api.Table{z, few, any}, api.Table{z, vars(in(-5, 0)), lost()}, 6},
		{api.Table{few, any, few}, api.Table{few, vars(upTo(0)), lost()}, 6},
		{api.Table{any, vars(from(1)), any}, filled(3, lost()), 2},
		{api.Table{vars(raw(-9, 9, 3, 6)), vars(raw(-8, 8, 4, 9)), any}, api.Table{vars(num.Make(api.Ival{Lo: -9, Hi: 9}, api.Cong{M: 3})), threes, lost()}, 6},
		{api.Table{vars(raw(-9, 9, 0, 4)), vars(raw(-1, 1, 2, 7)), any}, api.Table{vars(is(4)), vars(is(-1)), lost()}, 6},
	} {
		wantRun(t, p, plain(), row.u, 0, row.want, row.applications)
	}
}

// waiting is left when y says so; backwards the numbers that lead to the site fall.
const waiting = "var x; var y; while y < 1 { x := x + 1; input y; } assert x != 9;"

// P23.1: Delay is how often a head changes before it leaps; the first change, from Dead, is no leap either way. The vertices are the while, the step, the assert, the input and the end; a sweep has 5 applications, the first one 2.
func TestDelayByHand(t *testing.T) {
	p := mustText(t, waiting)
	any := vars(num.Top(), num.Top())
	want := api.Table{any, any, vars(is(9), num.Top()), any, lost()}
	for delay, sweeps := range []int{5, 5, 6, 7, 8, 9, 10} {
		c := api.Config{Cap: 1, Delay: delay}
		wantRun(t, p, c, tops(t, p, c), 0, want, 5*sweeps-3)
	}
}

// P23.1: a head leaps to a threshold, and to the next one where that isn't enough.
func TestThresholdsByHand(t *testing.T) {
	p := mustText(t, waiting)
	any := vars(num.Top(), num.Top())
	want := api.Table{any, any, vars(is(9), num.Top()), any, lost()}
	for _, row := range []struct {
		thresholds []int64
		sweeps     int
	}{
		{[]int64{9}, 5}, // none is at or below 8
		{[]int64{5}, 6}, // 5 to 9, then the leap
		{[]int64{5, 8}, 7},
		{[]int64{-1, 5, 8}, 8},
	} {
		c := api.Config{Cap: 1, Thresholds: row.thresholds}
		wantRun(t, p, c, tops(t, p, c), 0, want, 5*row.sweeps-3)
	}
	// Within a table that ends at a threshold the leap ends there.
	c := api.Config{Cap: 1, Thresholds: []int64{0}}
	u := except(tops(t, p, c), 1, vars(in(0, 8), num.Top()))
	ends := vars(in(0, 9), num.Top())
	wantRun(t, p, c, u, 0, api.Table{ends, u[1], want[2], ends, lost()}, 17)
}

// P23.1: each time that the table is narrowed there are 5 applications for U, and 5 for what comes by it, but where it is the same.
func TestNarrowingByHand(t *testing.T) {
	p := mustText(t, waiting)
	site, low, ends := vars(is(9), num.Top()), vars(upTo(9), num.Top()), vars(in(0, 9), num.Top())
	for narrow, row := range []struct {
		head, input  api.Env
		applications int
	}{
		{low, low, 17},
		{ends, low, 27},
		{ends, ends, 37},
		{ends, ends, 42},
	} {
		c := api.Config{Cap: 1, Narrow: narrow}
		u := except(tops(t, p, c), 1, vars(in(0, 8), num.Top()))
		wantRun(t, p, c, u, 0, api.Table{row.head, u[1], site, row.input, lost()}, row.applications)
	}
}

// P23.1: sweeps of 3, 4 (the head leaps), 4 (the numbers wrap, and it leaps again), 4 and 4; 4 for U and 4 for what comes by it, twice; U is the same the third time.
func TestFallingByHand(t *testing.T) {
	p := mustText(t, falling)
	any, low := vars(num.Top()), vars(upTo(2))
	for narrow, row := range []struct {
		head, site   api.Env
		applications int
	}{
		{any, any, 19},
		{low, any, 27},
		{low, low, 35},
		{low, low, 39},
	} {
		c := api.Config{Cap: 1, Narrow: narrow}
		wantRun(t, p, c, tops(t, p, c), 0, api.Table{row.head, any, lost(), row.site}, row.applications)
	}
}

// P23.1: of a site ahead of a loop the loop's vertices are dead, and have no application.
func TestSiteAheadOfALoopByHand(t *testing.T) {
	p := mustText(t, "var x; input x; assert x < 9; while x < 20 { x := x + 2; }")
	want := api.Table{vars(num.Top()), vars(from(9)), lost(), lost(), lost()}
	wantRun(t, p, api.Config{Cap: 1}, tops(t, p, plain()), 0, want, 4)
	wantRun(t, p, plain(), tops(t, p, plain()), 0, want, 6)
}

// P23.1: several sites in one statement have passes of their own.
func TestSitesInOneStatementByHand(t *testing.T) {
	p := mustText(t, "var x; var y; x := 7 / x + 5 % y;")
	any := num.Top()
	wantRun(t, p, plain(), tops(t, p, plain()), 0, api.Table{vars(is(0), any), lost()}, 3)
	wantRun(t, p, plain(), tops(t, p, plain()), 1, api.Table{vars(any, is(0)), lost()}, 3)
	// The store's own site, the division's (its index is right then), and the load's.
	p = mustText(t, "var x; var y; array a[2]; a[x] := a[y] / x;")
	at := func(x, y api.Num) api.Env { return both(list(x, y), list(any)) }
	u := api.Table{at(in(0, 5), in(1, 9)), top(t, p)}
	wantRun(t, p, plain(), u, 0, api.Table{at(in(2, 5), in(1, 9)), lost()}, 3)
	wantRun(t, p, plain(), u, 1, api.Table{at(is(0), in(1, 9)), lost()}, 3)
	wantRun(t, p, plain(), u, 2, api.Table{at(in(0, 1), in(2, 9)), lost()}, 3)
}

// P23.1: both edges of an if lead to one vertex: two applications, of which one tells nothing. With the decision remembered there are two vertices with a Seed, of which one tells nothing.
func TestTwoLinksToOneVertexByHand(t *testing.T) {
	p := mustText(t, "var x; input x; if x < 0 { } else { } assert x != 3;")
	three := vars(is(3))
	wantRun(t, p, plain(), ahead(t, p, plain(), zeros(t, p)), 0, api.Table{vars(is(0)), three, three, lost()}, 12)
	c := api.Config{Hist: 1, Cap: 2, Narrow: 1}
	wantRun(t, p, c, ahead(t, p, c, zeros(t, p)), 0, api.Table{vars(is(0)), three, lost(), three, lost(), lost()}, 12)
}

// P23.1: the rounds of the loop are told apart by Unroll: the vertices are the head, the body in round 1, the assert, the head behind a round, the end, the body in round 2 or later, the head behind two or more. Sweeps of 6, 9 and 9.
func TestUnrolledByHand(t *testing.T) {
	p := mustText(t, "var x; while x < 3 { x := x + 1; } assert x != 3;")
	c := api.Config{Unroll: 2, Cap: 3, Delay: 6}
	u := api.Table{vars(is(0)), vars(is(0)), vars(is(3)), vars(is(1)), lost(), vars(in(1, 2)), vars(in(2, 3))}
	wantRun(t, p, c, u, 0, u, 24)
	c.Narrow = 1
	wantRun(t, p, c, u, 0, u, 33)
	// With a Cap of 2 the while is merged, and the pass is that of one vertex a node.
	c.Cap, c.Narrow = 2, 0
	u = api.Table{vars(in(0, 3)), vars(in(0, 2)), vars(is(3)), lost()}
	merged, number, code := Run(p, c, u, 0)
	if code != api.OK {
		t.Fatalf("P23.1: Run with %+v = %v", c, code)
	}
	wantRun(t, p, api.Config{Cap: 1, Delay: 6}, u, 0, merged, number)
}

// P23.1: a loop in a loop; the vertices are the outer head, the inner head, the assert, the inner body, the step behind the inner loop, and the end. Sweeps of 2, 5 (what leads to the inner loop's end), 7, 7 and 7; U is the same.
func TestNestedByHand(t *testing.T) {
	p := mustText(t, "var x; var y; while x < 2 { while y < 2 { y := y + 1; } x := x + 1; } assert x != 2;")
	even := num.Make(api.Ival{Lo: 0, Hi: 2}, api.Cong{M: 2})
	u := api.Table{vars(in(0, 2), even), vars(in(0, 1), in(0, 2)), vars(is(2), even), vars(in(0, 1), in(0, 1)), vars(in(0, 1), is(2)), lost()}
	wantRun(t, p, api.Config{Cap: 1, Delay: 6}, u, 0, u, 28)
	wantRun(t, p, api.Config{Cap: 1, Delay: 6, Narrow: 2}, u, 0, u, 35)
}

// P23.1: of an array of length 1 it is known which element is meant, of others not. The sites are the store's own, the assert's and the load's, which can't fault.
func TestArraysByHand(t *testing.T) {
	any := num.Top()
	p := mustText(t, "array a[1]; var x; a[0] := x; assert a[0] != 5;")
	wantRun(t, p, plain(), tops(t, p, plain()), 1, api.Table{both(list(is(5)), list(any)), both(list(any), list(is(5))), lost()}, 6)
	wantRun(t, p, plain(), tops(t, p, plain()), 2, filled(3, lost()), 2)
	p = mustText(t, "array a[3]; var x; a[0] := x; assert a[0] != 5;")
	wantRun(t, p, plain(), tops(t, p, plain()), 1, except(tops(t, p, plain()), 2, lost()), 6)
}
