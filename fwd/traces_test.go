package fwd

import (
	"math"
	"testing"

	"winnow/api"
	"winnow/num"
)

func upTo(v int64) api.Num { return num.Range(math.MinInt64, v) }

// P22.1: Delay is how often a head changes before it leaps; the first change, from Dead, is no leap either way.
func TestDelayByHand(t *testing.T) {
	p := mustText(t, counting)
	z := zeros(t, p)
	leapt := api.Table{vars(from(0)), vars(in(0, 2)), vars(from(3))}
	exact := api.Table{vars(in(0, 3)), vars(in(0, 2)), vars(is(3))}
	for delay, row := range []struct {
		want         api.Table
		applications int
	}{
		{leapt, 8},  // sweeps of 2, 3, 3
		{leapt, 8},  // the first change is from Dead to 0, the second leaps
		{leapt, 11}, // 0 to 1, then the leap
		{leapt, 14}, // 0 to 2, then the leap
		{exact, 14}, // 0 to 3: nothing is left to leap
		{exact, 14}, // 5
		{exact, 14}, // 6
	} {
		wantRun(t, p, api.Config{Cap: 1, Delay: delay}, z, nil, row.want, row.applications)
	}
	wantRun(t, p, api.Config{Cap: 1, Delay: 6, Narrow: 3}, z, nil, exact, 17)
}

// P22.1: a head leaps to a threshold, and to the next one where that isn't enough.
func TestThresholdsByHand(t *testing.T) {
	p := mustText(t, counting)
	z := zeros(t, p)
	for _, row := range []struct {
		thresholds   []int64
		head, end    api.Num
		applications int
	}{
		{[]int64{5}, in(0, 5), in(3, 5), 8},
		{[]int64{3}, in(0, 3), is(3), 8},
		{[]int64{1, 3}, in(0, 3), is(3), 11},
		{[]int64{1, 2, 9}, in(0, 9), in(3, 9), 14},
		{[]int64{1, 2}, from(0), from(3), 14},
		{[]int64{-7, 0}, from(0), from(3), 8},
		{[]int64{math.MaxInt64}, from(0), from(3), 8},
	} {
		c := api.Config{Cap: 1, Thresholds: row.thresholds}
		wantRun(t, p, c, z, nil, api.Table{vars(row.head), vars(in(0, 2)), vars(row.end)}, row.applications)
	}
}

// P22.1: other starts than the store of zeros.
func TestStartsByHand(t *testing.T) {
	p := mustText(t, counting)
	all := api.Table{vars(num.Top()), vars(upTo(2)), vars(from(3))}
	wantRun(t, p, api.Config{Cap: 1}, top(t, p), nil, all, 5)
	wantRun(t, p, plain(), top(t, p), nil, all, 8)
	// The loop isn't gone into: the body has no live link into it but the head's, which is gone twice or thrice.
	beyond := api.Table{vars(is(7)), lost(), vars(is(7))}
	wantRun(t, p, api.Config{Cap: 1}, vars(is(7)), nil, beyond, 4)
	wantRun(t, p, plain(), vars(is(7)), nil, beyond, 6)
	// Starts that aren't in their normal form mean it.
	wantRun(t, p, plain(), vars(raw(5, 9, 4, 11)), nil, beyond, 6)
	wantRun(t, p, plain(), vars(raw(math.MinInt64, math.MaxInt64, 0, 7)), nil, beyond, 6)
	none := api.Table{lost(), lost(), lost()}
	for _, e := range []api.Env{
		lost(), vars(num.Bot()), vars(raw(1, 0, 1, 0)), vars(raw(4, 6, 4, 3)), {Dead: true, Vars: list(is(7))},
		{Dead: true, Vars: list(is(7), is(8)), Arrays: list(is(9))}, vars(api.Num{Bot: true, I: api.Ival{Lo: 7, Hi: 7}, C: api.Cong{R: 7}}),
	} {
		wantRun(t, p, plain(), e, nil, none, 0)
		wantRun(t, p, plain(), e, filled(3, top(t, p)), none, 0)
	}
}

// P22.1: a row of steps, with Envs cut to a limit at each vertex.
func TestLimitsByHand(t *testing.T) {
	p := mustText(t, short)
	z, any, few := vars(is(0)), vars(num.Top()), vars(in(-5, 5))
	for _, row := range []struct {
		limit, want  api.Table
		applications int
	}{
		{nil, api.Table{z, any, vars(from(1))}, 6},
		{api.Table{}, api.Table{z, any, vars(from(1))}, 6},
		{api.Table{any, any, any}, api.Table{z, any, vars(from(1))}, 6},
		{api.Table{few, few, few}, api.Table{z, few, vars(in(1, 5))}, 6},
		{api.Table{any, few, any}, api.Table{z, few, vars(in(1, 5))}, 6},
		{api.Table{any, any, few}, api.Table{z, any, vars(in(1, 5))}, 6},
		{api.Table{any, vars(upTo(0)), any}, api.Table{z, vars(upTo(0)), lost()}, 6},
		{api.Table{any, lost(), any}, api.Table{z, lost(), lost()}, 3},
		{api.Table{any, any, lost()}, api.Table{z, any, lost()}, 6},
		{api.Table{lost(), any, any}, api.Table{lost(), lost(), lost()}, 0},
		{api.Table{vars(from(1)), any, any}, api.Table{lost(), lost(), lost()}, 0},
		{api.Table{vars(raw(-9, 9, 3, 6)), vars(raw(-8, 8, 4, 9)), vars(raw(0, 7, 2, 3))}, api.Table{z, vars(num.Make(api.Ival{Lo: -7, Hi: 5}, api.Cong{M: 4, R: 1})), vars(num.Make(api.Ival{Lo: 1, Hi: 5}, api.Cong{M: 4, R: 1}))}, 6},
		{api.Table{any, vars(raw(3, 2, 1, 0)), any}, api.Table{z, lost(), lost()}, 3},
		{api.Table{any, {Dead: true, Vars: list(is(1), is(2))}, any}, api.Table{z, lost(), lost()}, 3},
	} {
		wantRun(t, p, plain(), z, row.limit, row.want, row.applications)
	}
}

// P22.1: in the sweeps a head may leap beyond the limit, which cuts what goes on from it, and cuts it behind the last sweep.
func TestLimitedLoopByHand(t *testing.T) {
	p := mustText(t, counting)
	any := vars(num.Top())
	limit := api.Table{vars(in(0, 1)), any, any}
	want := api.Table{vars(in(0, 1)), vars(in(0, 1)), lost()}
	// Sweeps of 2, 3 (the head leaps) and 3; U is the same.
	wantRun(t, p, api.Config{Cap: 1}, zeros(t, p), limit, want, 8)
	wantRun(t, p, plain(), zeros(t, p), limit, want, 11)
	// Nothing comes back from the body: sweeps of 2, and 2 again.
	limit = api.Table{any, lost(), any}
	want = api.Table{vars(is(0)), lost(), lost()}
	wantRun(t, p, api.Config{Cap: 1}, zeros(t, p), limit, want, 4)
	// The answer of a pass as its limit: the head leaps as before, and is cut.
	narrow := api.Table{vars(in(0, 3)), vars(in(0, 2)), vars(is(3))}
	wantRun(t, p, api.Config{Cap: 1}, zeros(t, p), narrow, narrow, 8)
	wantRun(t, p, api.Config{Cap: 1, Narrow: 3}, zeros(t, p), narrow, narrow, 11)
	wide := api.Table{vars(from(0)), vars(in(0, 2)), vars(from(3))}
	wantRun(t, p, api.Config{Cap: 1}, zeros(t, p), wide, wide, 8)
	wantRun(t, p, api.Config{Cap: 1, Narrow: 2}, zeros(t, p), wide, narrow, 20)
}

// P22.1: vertices to which no link from a live one leads have no application.
func TestDeadLinksByHand(t *testing.T) {
	p := mustText(t, "var x; assert x > 0; x := 1; x := 2;")
	want := api.Table{vars(is(0)), lost(), lost(), lost()}
	wantRun(t, p, api.Config{Cap: 1}, zeros(t, p), nil, want, 2)
	wantRun(t, p, plain(), zeros(t, p), nil, want, 3)
	p = mustText(t, "var x; if x > 0 { x := 1; } else { x := 2; }")
	want = api.Table{vars(is(0)), lost(), vars(is(0)), vars(is(2))}
	wantRun(t, p, api.Config{Cap: 1}, zeros(t, p), nil, want, 6)
	wantRun(t, p, plain(), zeros(t, p), nil, want, 9)
}

// P22.1: a counter that wraps: sweeps of 2, 3, 4 (the leap to all numbers, by which the loop is left) and 4; U is the same.
func TestWrappingByHand(t *testing.T) {
	p := mustText(t, "var i; while i >= 0 { i := i + 1; } assert i < 0;")
	want := api.Table{vars(num.Top()), vars(from(0)), vars(upTo(-1)), vars(upTo(-1))}
	wantRun(t, p, api.Config{Cap: 1}, zeros(t, p), nil, want, 13)
	wantRun(t, p, plain(), zeros(t, p), nil, want, 17)
	wantAlarms(t, p, plain(), want)
}

// P22.1: both edges of an if lead to one vertex: two applications for it.
func TestTwoLinksToOneVertexByHand(t *testing.T) {
	p := mustText(t, "var x; input x; if x < 0 { } else { }")
	want := api.Table{vars(is(0)), vars(num.Top()), vars(num.Top())}
	wantRun(t, p, plain(), zeros(t, p), nil, want, 9)
	// With the decision remembered there are two vertices.
	c := api.Config{Hist: 1, Cap: 2, Narrow: 1}
	want = api.Table{vars(is(0)), vars(num.Top()), vars(upTo(-1)), vars(from(0))}
	wantRun(t, p, c, zeros(t, p), nil, want, 9)
	// A loop of one vertex: its link to itself, and the one out of it.
	p = mustText(t, "var x; while x == 0 { }")
	wantRun(t, p, plain(), zeros(t, p), nil, api.Table{vars(is(0)), lost()}, 1+2+2)
}

// P22.1: the rounds of the loop are told apart by Unroll: the vertices are the head, the body in round 1, the end, the head behind a round, the body in round 2 or later, the head behind two or more.
func TestUnrolledByHand(t *testing.T) {
	p := mustText(t, counting)
	c := api.Config{Unroll: 2, Cap: 3, Delay: 6}
	x := mustSplit(t, p, c)
	if len(x.Verts) != 6 || len(x.Links) != 8 {
		t.Fatalf("the part is %v", x)
	}
	want := api.Table{vars(is(0)), vars(is(0)), vars(is(3)), vars(is(1)), vars(in(1, 2)), vars(in(2, 3))}
	got, _, code := Run(p, c, zeros(t, p), nil)
	if code != api.OK || tellTable(got) != tellTable(want) {
		t.Errorf("P22.1: Run with %+v = %v, %v, want %v", c, got, code, want)
	}
	// With a Cap of 2 the while is merged, and the pass is that of one vertex a node.
	c.Cap = 2
	wantRun(t, p, c, zeros(t, p), nil, api.Table{vars(in(0, 3)), vars(in(0, 2)), vars(is(3))}, 14)
}

// P22.1: arrays have one Num for all elements, but one of length 1 takes another one's place.
func TestArraysByHand(t *testing.T) {
	p := mustText(t, "array a[3]; array b[1]; a[0] := 6; b[0] := 6;")
	six := num.Make(api.Ival{Lo: 0, Hi: 6}, api.Cong{M: 6})
	zero := is(0)
	want := api.Table{both(nil, list(zero, zero)), both(nil, list(six, zero)), both(nil, list(six, is(6)))}
	wantRun(t, p, plain(), zeros(t, p), nil, want, 6)
}

// P22.1: a loop in a loop; the vertices are the outer head, the inner head, the end, the inner body, and the step behind the inner loop.
func TestNestedByHand(t *testing.T) {
	p := mustText(t, "var x; var y; while x < 2 { while y < 2 { y := y + 1; } x := x + 1; }")
	even := num.Make(api.Ival{Lo: 0, Hi: 2}, api.Cong{M: 2})
	// Sweeps of 4, 5, 5 (the inner loop is left), 6 (the outer head grows), 6 (and again) and 6; U is the same.
	slow := api.Table{vars(in(0, 2), even), vars(in(0, 1), in(0, 2)), vars(is(2), even), vars(in(0, 1), in(0, 1)), vars(in(0, 1), is(2))}
	wantRun(t, p, api.Config{Cap: 1, Delay: 6}, zeros(t, p), nil, slow, 32)
	wantRun(t, p, api.Config{Cap: 1, Delay: 6, Narrow: 2}, zeros(t, p), nil, slow, 38)
	// Sweeps of 4, 5 (the inner head leaps), 6 (the outer head leaps, then the inner one, as x grows there), 6 (x wraps) and 6.
	any := num.Top()
	fast := api.Table{vars(any, from(0)), vars(any, from(0)), vars(from(2), from(0)), vars(any, in(0, 1)), vars(any, from(2))}
	wantRun(t, p, api.Config{Cap: 1}, zeros(t, p), nil, fast, 27)
}
