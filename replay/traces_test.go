package replay

import (
	"math"
	"testing"

	"winnow/api"
	"winnow/num"
)

// P24.2: the Num is asked of the vertex behind the input, not of that ahead of it, and of the input's own scalar.
func TestWhichNumByHand(t *testing.T) {
	p := mustText(t, "var x; var y; input y; input x; input y;")
	u := api.Table{vars(is(1), is(2)), vars(is(3), is(4)), vars(is(5), is(6)), vars(is(7), is(8))}
	for try := range api.MaxTries {
		wantTape(t, p, plain(), u, try, 4, 5, 8)
	}
	u = api.Table{vars(in(-1, 3), in(5, 9)), vars(in(2, 6), in(10, 20)), vars(in(-9, -4), in(30, 40)), vars(in(1, 2), in(-6, 50))}
	for try, want := range [][]int64{{10, -4, 0}, {10, -9, -6}, {20, -4, 50}, {15, -7, 22}} {
		wantTape(t, p, plain(), u, try, want...)
	}
}

// P24.2: where the table is dead behind the input, by its normal form, all numbers are asked, of whatever Num it is that has none.
func TestDeadEnvsByHand(t *testing.T) {
	p := mustText(t, "var x; var y; array a[2]; input x; input y;")
	some := both(list(in(3, 5), in(6, 8)), list(is(0)))
	for _, none := range []api.Env{
		lost(), {Dead: true, Vars: list(is(1), is(2)), Arrays: list(is(3))}, {Dead: true, Vars: list(is(4))},
		both(list(num.Bot(), is(1)), list(is(0))), both(list(is(1), num.Bot()), list(is(0))), both(list(is(1), is(2)), list(num.Bot())),
		both(list(is(1), raw(4, 6, 4, 3)), list(is(0))), both(list(is(1), is(2)), list(raw(1, 0, 1, 0))), both(list(raw(2, 4, 0, 7), is(1)), list(is(0))),
	} {
		for try, all := range []int64{0, math.MinInt64, math.MaxInt64, -1} {
			x, y := []int64{3, 3, 5, 4}[try], []int64{6, 6, 8, 7}[try]
			wantTape(t, p, plain(), api.Table{none, some, some}, try, x, y)
			wantTape(t, p, plain(), api.Table{some, none, some}, try, all, y)
			wantTape(t, p, plain(), api.Table{some, some, none}, try, x, all)
			wantTape(t, p, plain(), api.Table{none, none, none}, try, all, all)
		}
	}
}

// P24.2: Nums that aren't in their normal form mean it.
func TestRawTablesByHand(t *testing.T) {
	p := mustText(t, nine)
	for _, row := range []struct {
		a    api.Num
		want [api.MaxTries]int64
	}{
		{raw(-10, 10, 7, 15), [...]int64{1, -6, 8, 1}},
		{raw(2, 100, 0, 9), [...]int64{9, 9, 9, 9}},
		{raw(5, 7, 6, 6), [...]int64{6, 6, 6, 6}},
		{raw(math.MinInt64, 3, 1, 5), [...]int64{0, math.MinInt64, 3, -1<<62 + 1}},
	} {
		for try, want := range row.want {
			wantTape(t, p, plain(), api.Table{lost(), vars(row.a), lost()}, try, want)
		}
	}
}

// P24.2: the playing goes on where the table has no store: it is no limit to it.
func TestTableIsNoLimit(t *testing.T) {
	p := mustText(t, "var x; var y; input x; if x == 5 { input y; } else { input x; input y; }")
	// The input's number leads into the else, whose vertices are dead in the table.
	u := filled(len(mustSplit(t, p, plain()).Verts), lost())
	u[1] = vars(in(3, 9), is(0))
	wantTape(t, p, plain(), u, 0, 3, 0, 0)
	wantTape(t, p, plain(), u, 2, 9, math.MaxInt64, math.MaxInt64)
	u[1] = vars(is(5), is(0))
	wantTape(t, p, plain(), u, 1, 5, math.MinInt64)
	// A number of the table that the run's own store doesn't have, and the other way about.
	p = mustText(t, "var x; x := 4; if x == 4 { input x; assert x != 6; }")
	wantFound(t, p, plain(), filled(len(mustSplit(t, p, plain()).Verts), vars(is(6))), 0, 4, 6)
}

// P24.2: the playing ends behind the fuel, at the exit and at a fault; the step that faults reads nothing, and no input behind it is read.
func TestEndingsByHand(t *testing.T) {
	for _, row := range []struct {
		text  string
		reads []int // by the fuel: how many numbers were read
	}{
		{"", []int{0, 0, 0}},
		{"skip;", []int{0, 0, 0}},
		{"var x; input x;", []int{0, 1, 1, 1}},
		{"var x; input x; input x;", []int{0, 1, 2, 2}},
		{"var x; skip; input x; skip; input x;", []int{0, 0, 1, 1, 2, 2}},
		{"var x; input x; assert x != 7; input x;", []int{0, 1, 1, 1, 1}},
		{"var x; input x; x := 1 / (x - 7); input x;", []int{0, 1, 1, 1, 1}},
		{"var x; input x; if 1 / (x - 7) < 0 { input x; } else { input x; } input x;", []int{0, 1, 1, 1, 1}},
		{"var x; input x; while x / (x - 7) < 0 { input x; } input x;", []int{0, 1, 1, 1, 1}},
		{"array a[7]; var x; input x; a[x] := 1; input x;", []int{0, 1, 1, 1, 1}},
		{"var x; input x; if x == 7 { input x; } else { input x; input x; }", []int{0, 1, 1, 2, 2, 2}},
		{"var x; input x; if x != 7 { input x; } else { input x; input x; }", []int{0, 1, 1, 2, 3, 3}},
		{"var x; input x; if x != 7 { } input x;", []int{0, 1, 1, 2, 2}},
		{"var x; while x < 14 { input x; } input x;", []int{0, 0, 1, 1, 2, 2, 3, 3, 4, 4}},
		{"var x; while x > 0 { input x; } input x;", []int{0, 0, 1, 1}},
	} {
		p := mustText(t, row.text)
		for fuel, number := range row.reads {
			c := api.Config{Cap: 1, Fuel: fuel, Tries: 1}
			u := tops(t, p, c)
			for i := range u {
				for j := range u[i].Vars {
					u[i].Vars[j] = is(7)
				}
			}
			want := make([]int64, number)
			for i := range want {
				want[i] = 7
			}
			wantTape(t, p, c, u, 0, want...)
		}
	}
}

// P24.2: the decisions make several vertices of a node, whose Nums are told apart: that of the vertex at which the playing is.
func TestVerticesByHand(t *testing.T) {
	p := mustText(t, "var x; var y; input x; if x < 0 { skip; } else { } input y;")
	for _, c := range []api.Config{{Hist: 1, Cap: 2, Fuel: 9, Tries: 4}, {Hist: 3, Cap: 6, Fuel: 9, Tries: 4}} {
		parts := mustSplit(t, p, c)
		u := tops(t, p, c)
		for v, x := range parts.Verts {
			switch {
			case len(x.Token.Hist) == 0:
				u[v] = vars(in(-4, 5), is(0))
			case x.Token.Hist[0] == 1:
				u[v] = vars(is(0), is(11))
			default:
				u[v] = vars(is(0), is(22))
			}
		}
		for try, want := range [][]int64{{0, 22}, {-4, 11}, {5, 22}, {0, 22}} {
			wantTape(t, p, c, u, try, want...)
		}
	}
	// With a Cap of 1 the nodes behind the if are merged.
	c := api.Config{Hist: 1, Cap: 1, Fuel: 9, Tries: 4}
	parts, u := mustSplit(t, p, c), tops(t, p, c)
	for v, x := range parts.Verts {
		if x.Token.Merged {
			u[v] = vars(is(0), is(33))
		} else {
			u[v] = vars(in(-4, 5), is(0))
		}
	}
	if len(parts.Merged) == 0 {
		t.Fatal("no node is merged")
	}
	wantTape(t, p, c, u, 1, -4, 33)
	wantTape(t, p, c, u, 2, 5, 33)
}

// P24.2: the rounds of a loop are told apart by Unroll, and those beyond it not.
func TestRoundsByHand(t *testing.T) {
	p := mustText(t, "var x; while x < 99 { input x; }")
	for unroll, want := range [][]int64{{0, 0, 0, 0, 0}, {1, 1, 1, 1, 1}, {1, 2, 2, 2, 2}, {1, 2, 3, 3, 3}} {
		c := api.Config{Unroll: unroll, Cap: 6, Fuel: 10, Tries: 1}
		u := tops(t, p, c)
		for v, x := range mustSplit(t, p, c).Verts {
			round := 0
			for _, l := range x.Token.Loops {
				round = l.Count
			}
			u[v] = vars(is(int64(round)))
		}
		wantTape(t, p, c, u, 0, want...)
	}
}

// P24.3: of several tries that fault at the site the first is answered, and one that faults at another site isn't.
func TestFirstTryByHand(t *testing.T) {
	p := mustText(t, "var x; input x; assert x != 4; assert x < 8; x := 9 / x;")
	at := func(a api.Num) api.Table { return except(tops(t, p, plain()), 1, vars(a)) }
	for _, row := range []struct {
		a                 api.Num
		first, last, zero []int64 // the tapes that fault at the three sites
	}{
		{in(4, 9), []int64{4}, []int64{9}, nil}, // 4, 4, 9, 6
		{in(8, 9), nil, []int64{8}, nil},        // 8, 8, 9, 8
		{in(3, 5), []int64{4}, nil, nil},        // 3, 3, 5, 4: the last one
		{in(-1, 9), []int64{4}, []int64{9}, []int64{0}},
		{in(-9, 4), []int64{4}, nil, []int64{0}},
		{in(1, 3), nil, nil, nil},
		{num.Top(), nil, []int64{math.MaxInt64}, []int64{0}},
		{raw(0, 40, 10, 4), []int64{4}, []int64{34}, nil}, // 4, 4, 34, 24: the greatest is ahead of the middle
		{raw(-30, 30, 20, 10), nil, []int64{10}, nil},     // 10, -30, 30, 10
	} {
		for site, tape := range [][]int64{row.first, row.last, row.zero} {
			if tape == nil {
				wantNone(t, p, plain(), at(row.a), site)
			} else {
				wantFound(t, p, plain(), at(row.a), site, site+2, tape...)
			}
		}
	}
}

// P24.3: only c.Tries tries are made, of c.Fuel steps: each row has the Num by which just that try is the first to read the number that faults.
func TestTriesAndFuelByHand(t *testing.T) {
	for try, row := range []struct {
		text string
		a    api.Num
		tape int64
	}{
		{nine, in(9, 20), 9},
		{"var x; input x; assert x != -9;", in(-9, 9), -9},
		{nine, in(0, 9), 9},
		{nine, in(0, 19), 9},
	} {
		p := mustText(t, row.text)
		for tries := range api.MaxTries + 1 {
			for fuel := range 4 {
				c := api.Config{Cap: 1, Fuel: fuel, Tries: tries}
				u := except(tops(t, p, c), 1, vars(row.a))
				if fuel >= 2 && tries > try {
					wantFound(t, p, c, u, 0, 2, row.tape)
				} else {
					wantNone(t, p, c, u, 0)
				}
			}
		}
	}
}

// P24.3, P24.4: a fault that reads nothing has no tape, but is found.
func TestFaultWithoutInputs(t *testing.T) {
	for _, row := range []struct {
		text        string
		site, steps int
	}{
		{"assert false;", 0, 1},
		{"var x; x := 1 / x;", 0, 1},
		{"assert 1 / 0 == 0 || true;", 1, 1},
		{"var x; while x < 3 { x := x + 1; } assert x != 3; input x;", 0, 8},
		{"array a[2]; var x; while x < 9 { a[x] := 1; x := x + 1; }", 0, 8},
	} {
		p := mustText(t, row.text)
		for site := range p.Sites {
			if site == row.site {
				wantFound(t, p, plain(), tops(t, p, plain()), site, row.steps)
			} else {
				wantNone(t, p, plain(), tops(t, p, plain()), site)
			}
		}
	}
}

// P24.3: by a backward pass' table tries fault that don't by the forward one's.
func TestBackwardTablesByHand(t *testing.T) {
	plain := api.Config{Cap: 1, Narrow: 2, Fuel: 40, Tries: 4}
	unrolled := api.Config{Cap: 6, Unroll: 3, Narrow: 2, Fuel: 40, Tries: 4}
	for _, row := range []struct {
		text  string
		c     api.Config
		steps int
		tape  []int64
	}{
		{"var x; input x; assert x != 7;", plain, 2, []int64{7}},
		{"var x; var y; input x; input y; if x == 12 { assert y != 34; }", plain, 4, []int64{12, 34}},
		{"var x; var y; input y; while x < 5 { x := x + 1; } assert y != 7;", plain, 13, []int64{7}},
		{"var x; var y; while x < 3 { input y; x := x + 1; } if y == 77 { assert x < 3; }", unrolled, 12, []int64{0, 0, 77}},
	} {
		p := mustText(t, row.text)
		first := ahead(t, p, row.c)
		wantNone(t, p, row.c, first, 0)
		wantFound(t, p, row.c, back(t, p, row.c, first, 0), 0, row.steps, row.tape...)
	}
}
