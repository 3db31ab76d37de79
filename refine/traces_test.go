package refine

import (
	"testing"

	"winnow/api"
	"winnow/num"
)

// copies have numbers that are the same two by two, which no table knows: what one round tells of y tells of v, by the inner condition, and so of w in the next one.
const copies = "var x; var y; var w; var v; input x; input w; y := x; v := w; if x == 1 { if y + v == 5 { "

// chain goes on for one round more: by w it tells of u, by the third condition of s, and so of t.
const chain = "var x; var y; var w; var v; var u; var s; var t; input x; input w; input t; y := x; v := w; u := w; s := t; if x == 1 { if y + v == 5 { if u + s == 9 { "

// rests can't be 4 by 8, which the backward pass sees as soon as it is known that 4 is wanted.
const rests = "var x; var y; var w; var v; input x; y := x; input w; if w > 12 && w < 18 { v := w % 8; if x == 1 { if y + v == 5 { assert false; } } }"

// P25.1: of the chapter's example 1 each round has a backward pass of 2 applications a sweep, two sweeps and one narrowing, and such a forward one; the first table isn't among those that are answered.
func TestRoundsByHand(t *testing.T) {
	p := mustText(t, short)
	faulty := api.Table{vars(is(0)), vars(upTo(0)), lost()}
	var tables []api.Table
	for rounds, row := range []struct{ round, applications int }{{0, 0}, {1, 12}, {2, 24}, {2, 24}} {
		c := rounded(rounds, 0, 0)
		wantSite(t, p, c, firstOf(t, p, c), 0, unknown(row.round), row.applications, tables...)
		r, _ := All(p, c)
		if r.Posts != 6+row.applications {
			t.Errorf("P25.2: %d applications with %d rounds, want %d", r.Posts, rounds, 6+row.applications)
		}
		if rounds < 2 {
			tables = append(tables, faulty, faulty)
		}
	}
}

// P25.1: Safe by a backward table in which the zeros aren't: it is the last one. The vertices are the input, the if, its two branches, the second if, the assert, and the end; in each of two sweeps and one narrowing there are a Seed and a Pre back to the second if, and two Pres that tell nothing in the branches.
func TestSafeByABackwardTableByHand(t *testing.T) {
	p := mustText(t, branches)
	faulty := vars(upTo(0), is(1))
	back := api.Table{lost(), lost(), lost(), lost(), faulty, faulty, lost()}
	for rounds := 1; rounds <= api.MaxRounds; rounds++ {
		for tries := range api.MaxTries + 1 {
			c := rounded(rounds, tries, 1)
			wantSite(t, p, c, firstOf(t, p, c), 0, safe(1), 12, back)
		}
	}
}

// P25.1: Safe by a forward table by which the site is no alarm: it is the last one. Sweeps of 4 backwards and of 5 forwards.
func TestSafeByAForwardTableByHand(t *testing.T) {
	p := mustText(t, twins)
	any := num.Top()
	z, read := vars(is(0), is(0)), vars(is(1), is(0))
	back := api.Table{z, read, vars(is(1), any), vars(is(1), any), lost()}
	forth := api.Table{z, read, vars(is(1), is(1)), vars(is(1), is(1)), lost()}
	for rounds := 1; rounds <= api.MaxRounds; rounds++ {
		c := rounded(rounds, 4, 9)
		wantSite(t, p, c, firstOf(t, p, c), 0, safe(1), 27, back, forth)
	}
	wantAll(t, twins, rounded(0, 4, 9), unknown(0))
}

// P25.1: what each number of rounds tells, how many tables there are then, and how many applications: of copies 21 in a backward pass and 27 in a forward one, of chain 33 and 42, of rests 24, 33, and 12 in the second backward pass, which comes no further than the remainder.
func TestLaterRoundsByHand(t *testing.T) {
	for _, row := range []struct {
		text         string
		tries, site  int
		verdicts     [4]api.Verdict // by Rounds
		tables       [4]int
		applications [4]int
	}{
		{copies + "assert false; } }", 1, 0, [4]api.Verdict{unknown(0), unknown(1), definite(2, 7, 1, 4), definite(2, 7, 1, 4)}, [4]int{0, 2, 4, 4}, [4]int{0, 48, 96, 96}},
		{copies + "assert false; } }", 0, 0, [4]api.Verdict{unknown(0), unknown(1), unknown(2), unknown(3)}, [4]int{0, 2, 4, 6}, [4]int{0, 48, 96, 144}},
		{copies + "assert w == 4; } }", 4, 0, [4]api.Verdict{unknown(0), unknown(1), safe(2), safe(2)}, [4]int{0, 2, 4, 4}, [4]int{0, 48, 96, 96}},
		{rests, 4, 0, [4]api.Verdict{safe(0), safe(0), safe(0), safe(0)}, [4]int{}, [4]int{}},
		{rests, 4, 1, [4]api.Verdict{unknown(0), unknown(1), safe(2), safe(2)}, [4]int{0, 2, 3, 3}, [4]int{0, 57, 69, 69}},
		{chain + "assert false; } } }", 1, 0, [4]api.Verdict{unknown(0), unknown(1), unknown(2), definite(3, 11, 1, 4, 5)}, [4]int{0, 2, 4, 6}, [4]int{0, 75, 150, 225}},
		{chain + "assert false; } } }", 0, 0, [4]api.Verdict{unknown(0), unknown(1), unknown(2), unknown(3)}, [4]int{0, 2, 4, 6}, [4]int{0, 75, 150, 225}},
		{chain + "assert t == 5; } } }", 4, 0, [4]api.Verdict{unknown(0), unknown(1), unknown(2), safe(3)}, [4]int{0, 2, 4, 6}, [4]int{0, 75, 150, 225}},
	} {
		p := mustText(t, row.text)
		for rounds, want := range row.verdicts {
			c := rounded(rounds, row.tries, 60)
			v, tables, number, code := Site(p, c, firstOf(t, p, c), row.site)
			if tellVerdict(v) != tellVerdict(want) || len(tables) != row.tables[rounds] || number != row.applications[rounds] || code != api.OK {
				t.Errorf("P25.1: Site %d of %q with %d rounds = %+v, %d tables, %d, %v, want %+v, %d, %d",
					row.site, row.text, rounds, v, len(tables), number, code, want, row.tables[rounds], row.applications[rounds])
			}
		}
	}
}

// P25.1: what the rounds of copies tell of the store behind the last input and at the assert.
func TestTablesOfRoundsByHand(t *testing.T) {
	p, c := mustText(t, copies+"assert false; } }"), rounded(3, 1, 60)
	any, one, four, none := num.Top(), is(1), is(4), is(0)
	_, tables, _, _ := Site(p, c, firstOf(t, p, c), 0)
	want := []api.Table{
		{vars(one, none, any, none), vars(one, any, any, any)},
		{vars(one, none, any, none), vars(one, one, any, four)},
		{vars(one, none, four, none), vars(one, one, any, four)},
		{vars(one, none, four, none), vars(one, one, four, four)},
	}
	if len(tables) != len(want) {
		t.Fatalf("P25.1: %d tables", len(tables))
	}
	for i, u := range tables {
		if got := (api.Table{u[2], u[7]}); tellTable(got) != tellTable(want[i]) {
			t.Errorf("P25.1: the table %d is %v there, want %v", i, got, want[i])
		}
	}
}

// P25.1: Unknown ahead of Rounds, since T(k) is the same as T(k-1): at once, or a round later. A try is made ahead of that.
func TestTheSameTableByHand(t *testing.T) {
	for _, row := range []struct {
		text   string
		rounds [4]int // in which it is told, by Rounds
	}{
		{"assert false;", [4]int{0, 1, 1, 1}},
		{"var x; assert x > 0;", [4]int{0, 1, 1, 1}},
		{"var x; x := 1 / x;", [4]int{0, 1, 1, 1}},
		{short, [4]int{0, 1, 2, 2}},
		{seven, [4]int{0, 1, 2, 2}},
		{"var x; var y; input y; while x < 5 { x := x + 1; } assert y != 7;", [4]int{0, 1, 2, 2}},
		{copies + "assert false; } }", [4]int{0, 1, 2, 3}},
	} {
		for rounds, told := range row.rounds {
			wantAll(t, row.text, rounded(rounds, 0, 60), unknown(told))
		}
	}
	// Of the third round of copies it is just the same, but there is no round left to see it in; of a table of its own it is seen.
	p, c := mustText(t, copies+"assert false; } }"), rounded(3, 0, 0)
	_, tables, _, _ := Site(p, c, firstOf(t, p, c), 0)
	wantSite(t, p, c, tables[3], 0, unknown(1), 48, tables[3], tables[3])
	wantSite(t, p, c, tables[1], 0, unknown(2), 96, tables[2], tables[3], tables[3], tables[3])
}

// P25.1: Definite by each try, in round 0, and in round 1 where the tries of the first table don't do.
func TestDefiniteByHand(t *testing.T) {
	for _, row := range []struct {
		text  string
		tries int // from which on it is told in round 0
		zero  []int64
		one   []int64 // what is told in round 1 with less
	}{
		{"var x; input x; assert x < 0;", 1, []int64{0}, nil},
		{"var x; input x; assert x > -100;", 2, []int64{-9223372036854775808}, []int64{-100}},
		{"var x; input x; assert x < 100;", 3, []int64{9223372036854775807}, []int64{100}},
		{"var x; input x; assert x != 0 - 1;", 4, []int64{-1}, []int64{-1}},
		{"var x; input x; assert x != 7;", 5, nil, []int64{7}},
	} {
		for tries := range api.MaxTries + 1 {
			for rounds := range api.MaxRounds + 1 {
				for fuel := range 4 {
					want := definite(1, 2, row.one...)
					if tries >= row.tries {
						want = definite(0, 2, row.zero...)
					}
					if tries == 0 || fuel < 2 {
						want = unknown(min(rounds, 2))
					} else if rounds < want.Round {
						want = unknown(0)
					}
					wantAll(t, row.text, rounded(rounds, tries, fuel), want)
				}
			}
		}
	}
}

// P25.1: each site has its own verdict, its own tables and its own applications; the second try of site 1 reads the least number, the third one the greatest.
func TestSeveralSitesByHand(t *testing.T) {
	text := "var x; input x; assert x != 3; assert x < 9; x := 1 / x; assert x < 5;"
	p := mustText(t, text)
	at := func(a api.Num, number int) api.Table {
		u := filled(6, lost())
		for v := range number {
			u[v+1] = vars(a)
		}
		u[0] = vars(is(0))
		return u
	}
	c := rounded(3, 0, 60)
	first := firstOf(t, p, c)
	for site, row := range []struct {
		a            api.Num
		applications int
	}{{is(3), 24}, {from(9), 36}, {is(0), 48}} {
		u := at(row.a, site+1)
		wantSite(t, p, c, first, site, unknown(2), row.applications, u, u, u, u)
	}
	wantSite(t, p, c, first, 3, safe(0), 0)
	wantAll(t, text, rounded(0, 0, 60), unknown(0), unknown(0), unknown(0), safe(0))
	wantAll(t, text, rounded(1, 1, 60), definite(1, 2, 3), definite(1, 3, 9), definite(0, 4, 0), safe(0))
	wantAll(t, text, rounded(3, 1, 3), definite(1, 2, 3), definite(1, 3, 9), unknown(2), safe(0))
	wantAll(t, text, rounded(3, 3, 4), definite(1, 2, 3), definite(0, 3, 9223372036854775807), definite(0, 4, 0), safe(0))
	wantAll(t, text, rounded(3, 3, 2), definite(1, 2, 3), unknown(2), unknown(2), safe(0))
	// The forward pass has 15 applications.
	r, code := All(p, c)
	if code != api.OK || r.Posts != 15+24+36+48 {
		t.Errorf("P25.2: Posts of %q = %d, %v", text, r.Posts, code)
	}
}

// P25.1: first tables that no forward pass has told: it is by them that round 0 and round 1 go.
func TestFirstTablesByHand(t *testing.T) {
	p, c := mustText(t, short), rounded(3, 0, 0)
	z, any, low := vars(is(0)), vars(num.Top()), vars(upTo(0))
	faulty := api.Table{z, low, lost()}
	// Nothing goes anywhere: no alarm.
	for _, none := range []api.Env{lost(), vars(num.Bot()), vars(raw(1, 0, 1, 0)), vars(raw(4, 6, 4, 3)), {Dead: true, Vars: list(is(1), is(2))}} {
		wantSite(t, p, c, filled(3, none), 0, safe(0), 0)
		wantSite(t, p, c, except(filled(3, any), 1, none), 0, safe(0), 0)
		wantSite(t, p, c, except(filled(3, any), 0, none), 0, safe(1), 3, api.Table{lost(), low, lost()})
		wantSite(t, p, c, except(filled(3, any), 2, none), 0, unknown(2), 24, api.Table{any, low, lost()}, faulty, faulty, faulty)
	}
	// All stores; no alarm; zeros that aren't at the entry; a number that the site doesn't mind.
	wantSite(t, p, c, filled(3, any), 0, unknown(2), 24, api.Table{any, low, lost()}, faulty, faulty, faulty)
	wantSite(t, p, c, api.Table{any, vars(from(1)), any}, 0, safe(0), 0)
	wantSite(t, p, c, api.Table{vars(in(5, 9)), any, any}, 0, safe(1), 6, api.Table{vars(in(5, 9)), low, lost()})
	few := api.Table{z, vars(in(-5, 0)), lost()}
	wantSite(t, p, c, api.Table{z, vars(in(-5, 5)), any}, 0, unknown(2), 24, few, few, few, few)
	// The first table is the one that round 1 tells, though not in its normal form: it is the same.
	wantSite(t, p, c, faulty, 0, unknown(1), 12, faulty, faulty)
	odd := api.Table{vars(raw(-2, 2, 3, 6)), vars(raw(-1<<63, 0, 1, 9)), vars(num.Bot())}
	wantSite(t, p, c, odd, 0, unknown(1), 12, faulty, faulty)
	wantSite(t, p, c, except(odd, 2, api.Env{Dead: true, Arrays: list(is(1))}), 0, unknown(1), 12, faulty, faulty)
	// With another number of rounds it is the same, but for the round.
	wantSite(t, p, rounded(1, 0, 0), faulty, 0, unknown(1), 12, faulty, faulty)
	wantSite(t, p, rounded(0, 0, 0), faulty, 0, unknown(0), 0)
}

// P25.1: first tables by which the tries read other numbers.
func TestTriesOfFirstTablesByHand(t *testing.T) {
	p := mustText(t, seven)
	any := vars(num.Top())
	for _, row := range []struct {
		a     api.Num
		tries int // from which on a try reads 7
	}{{is(7), 1}, {in(7, 30), 1}, {in(-9, -1), 5}, {in(0, 7), 3}, {in(0, 13), 5}, {in(0, 14), 4}, {raw(-30, 30, 10, 7), 4}} {
		for tries := range api.MaxTries + 1 {
			c := rounded(0, tries, 2)
			first := api.Table{any, vars(row.a), any}
			if tries >= row.tries {
				wantSite(t, p, c, first, 0, definite(0, 2, 7), 0)
			} else if row.a == in(-9, -1) {
				wantSite(t, p, c, first, 0, safe(0), 0)
			} else {
				wantSite(t, p, c, first, 0, unknown(0), 0)
			}
		}
	}
}

// P25.1: vertices that are told apart, and nodes that are merged.
func TestTokensByHand(t *testing.T) {
	text := "var x; var y; while x < 3 { input y; x := x + 1; } if y == 77 { assert x < 3; }"
	wantAll(t, text, api.Config{Cap: 1, Narrow: 2, Rounds: 2, Tries: 1, Fuel: 40}, unknown(2))
	wantAll(t, text, api.Config{Cap: 6, Unroll: 3, Narrow: 2, Rounds: 2, Tries: 1, Fuel: 40}, definite(1, 12, 0, 0, 77))
	wantAll(t, text, api.Config{Cap: 2, Unroll: 3, Narrow: 2, Rounds: 2, Tries: 1, Fuel: 40}, unknown(2))
	wantAll(t, branches, api.Config{Cap: 1, Hist: 1}, unknown(0))
	wantAll(t, branches, api.Config{Cap: 2, Hist: 1}, safe(0))
	wantAll(t, branches, api.Config{Cap: 1, Hist: 1, Rounds: 3}, safe(1))
}
