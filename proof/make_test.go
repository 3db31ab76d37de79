package proof

import (
	"math"
	"slices"
	"testing"

	"winnow/api"
	"winnow/num"
	"winnow/refine"
)

// kindOf tells of a verdict and of the tables that led to it how it was told.
func kindOf(v api.Verdict, tables []api.Table) string {
	switch {
	case v.Kind == api.Definite:
		return "definite"
	case v.Kind == api.Unknown:
		return "unknown"
	case v.Round == 0:
		return "safe at once"
	case len(tables)%2 == 1:
		return "safe backwards " + []string{"", "early", "late", "late"}[v.Round]
	}
	return "safe forwards " + []string{"", "early", "late", "late"}[v.Round]
}

// wantMade holds Make against fwd.Run and refine.Site; what it makes is a chain, which Check takes, and no less of it. It tells the kind of the verdict.
func (w *words) wantMade() string {
	w.t.Helper()
	first := firstOf(w.t, w.p, w.c)
	verdict, tables, _, code := refine.Site(w.p, w.c, first, w.site)
	w.ok(code, "refine.Site")
	var want []api.Table
	if verdict.Kind == api.Safe {
		want = append([]api.Table{first}, tables...)
	}
	wantMake(w.t, w.p, w.c, w.site, want...)
	if w.t.Failed() {
		w.t.FailNow()
	}
	seen := map[string]int{}
	if len(want) > 0 && !w.want(seen, want...) {
		w.t.Fatalf("P26.3: the site %d with %+v is %+v; what Make makes isn't a chain: %v, %v", w.site, w.c, verdict, seen, want)
	}
	for number := range want {
		// What stands ahead of the last table shows nothing yet: the rounds end as soon as they show it. In a backward table the zeros are left, in a forward one the site is an alarm.
		if w.want(seen, want[:number]...) {
			w.t.Fatalf("P26.3: the site %d with %+v is %+v; %d tables of %v are enough", w.site, w.c, verdict, number, want)
		}
	}
	return kindOf(verdict, tables)
}

// P26.2, P26.3: programs of each shape, at the corners and with each number of rounds.
func TestMakesByWords(t *testing.T) {
	y := eachText(t, append(texts(), middle, climb), func(t *testing.T, p api.Prog, y *tally) {
		seen := map[string]int{}
		for i, c := range corners() {
			y.look(mustSplit(t, p, c))
			each := []int{c.Rounds}
			if i%3 == 0 {
				each = []int{0, 1, 2, 3}
			}
			for _, c.Rounds = range each {
				for site := range p.Sites {
					seen[newWords(t, p, c, site).wantMade()]++
				}
			}
		}
		y.add(seen)
	})
	wantSeen(t, y.seen, map[string]int{
		"definite": 300, "unknown": 300, "safe at once": 700,
		"safe backwards early": 60, "safe backwards late": 12, "safe forwards early": 40, "safe forwards late": 20,
	})
	if y.several < 100 || y.merged < 30 {
		t.Errorf("the parts are too much alike: %d with several vertices a node, %d with merged ones", y.several, y.merged)
	}
}

// P26.2: a site that is Safe in round 0: the forward table alone, with whatever rounds, tries and steps.
func TestSafeAtOnceByHand(t *testing.T) {
	fours := num.Norm(raw(math.MinInt64, math.MaxInt64, 4, 0))
	for rounds := range api.MaxRounds + 1 {
		for tries := range api.MaxTries + 1 {
			c := rounded(rounds, tries, 9)
			wantMake(t, mustText(t, middle), c, 0, numbers(is(0), is(1), is(2), is(2), is(3), is(4)))
			wantMake(t, mustText(t, "var x; if x != 0 { x := 1 / x; }"), c, 0, api.Table{vars(is(0)), lost(), vars(is(0))})
			wantMake(t, mustText(t, "var x; input x; x := x * 4; assert x % 2 == 0;"), c, 0, numbers(is(0), every(), fours, fours))
			wantMake(t, mustText(t, "var x; input x; x := x * 4; assert x % 2 == 0;"), c, 1, numbers(is(0), every(), fours, fours))
			wantMake(t, mustText(t, "assert true;"), c, 0, api.Table{{}, {}})
		}
	}
}

// P26.2: a site that is Safe by the first backward table: two tables. The vertices are the input, the if, its two branches, the second if, the assert, and the end.
func TestSafeBackwardsByHand(t *testing.T) {
	p := mustText(t, branches)
	z, one, any := is(0), is(1), every()
	first := api.Table{
		vars(z, z), vars(any, z), vars(from(1), z), vars(upTo(0), z), vars(any, in(0, 1)), vars(any, one), vars(any, in(0, 1)),
	}
	back := filled(7, lost())
	back[4], back[5] = vars(upTo(0), one), vars(upTo(0), one)
	wantMake(t, p, rounded(0, 4, 9), 0)
	for rounds := 1; rounds <= api.MaxRounds; rounds++ {
		for tries := range api.MaxTries + 1 {
			wantMake(t, p, rounded(rounds, tries, 9), 0, first, back)
		}
	}
	wantCheck(t, p, plain(), 0, true, first, back)
	wantCheck(t, p, plain(), 0, false, first)
	wantCheck(t, p, plain(), 0, false, first, filled(7, lost()))
}

// P26.2: a site that is Safe by the forward table of round 1: three tables. The vertices are the input, the assignment, the if, the assert, and the end.
func TestSafeForwardsByHand(t *testing.T) {
	p := mustText(t, twins)
	z, one, any := is(0), is(1), every()
	first := api.Table{vars(z, z), vars(any, z), vars(any, any), vars(one, any), vars(any, any)}
	back := api.Table{vars(z, z), vars(one, z), vars(one, any), vars(one, any), lost()}
	forth := api.Table{vars(z, z), vars(one, z), vars(one, one), vars(one, one), lost()}
	wantMake(t, p, rounded(0, 4, 9), 0)
	for rounds := 1; rounds <= api.MaxRounds; rounds++ {
		for tries := range api.MaxTries + 1 {
			wantMake(t, p, rounded(rounds, tries, 9), 0, first, back, forth)
		}
	}
	wantCheck(t, p, plain(), 0, true, first, back, forth)
	wantCheck(t, p, plain(), 0, false, first, back)
	wantCheck(t, p, plain(), 0, false, first, back, first)
	wantCheck(t, p, plain(), 0, false, first, forth)
	wantCheck(t, p, plain(), 0, false, first, forth, forth)
	wantCheck(t, p, plain(), 0, false, first, back, except(forth, 2, vars(one, z)))
}

// P26.2: how many tables are made with each number of rounds: none, as long as nothing is shown.
func TestLaterRoundsByHand(t *testing.T) {
	for _, row := range []struct {
		text        string
		tries, site int
		tables      [4]int // by Rounds
	}{
		{copies + "assert w == 4; } }", 0, 0, [4]int{0, 0, 5, 5}},
		{copies + "assert w == 4; } }", 4, 0, [4]int{0, 0, 5, 5}},
		{rests, 4, 0, [4]int{1, 1, 1, 1}},
		{rests, 4, 1, [4]int{0, 0, 4, 4}},
		{chain + "assert t == 5; } } }", 1, 0, [4]int{0, 0, 0, 7}},
		{copies + "assert false; } }", 1, 0, [4]int{}},
		{chain + "assert false; } } }", 1, 0, [4]int{}},
		{"var x; input x; assert x != 7;", 1, 0, [4]int{}},
		{"var x; input x; assert x != 7;", 0, 0, [4]int{}},
		{"var x; input x; assert x != 0;", 1, 0, [4]int{}},
	} {
		p := mustText(t, row.text)
		for rounds, number := range row.tables {
			c := rounded(rounds, row.tries, 60)
			tables, ok := Make(p, c, row.site)
			if len(tables) != number || ok != (number > 0) {
				t.Errorf("P26.2: Make of %q with %+v = %d tables, %v, want %d", row.text, c, len(tables), ok, number)
			}
			wantCheck(t, p, c, row.site, ok, tables...)
			// Of a chain's tables none is too many, and their order counts.
			for i := range tables {
				if number > 1 {
					wantCheck(t, p, c, row.site, false, slices.Delete(slices.Clone(tables), i, i+1)...)
				}
			}
			slices.Reverse(tables)
			wantCheck(t, p, c, row.site, number == 1, tables...)
		}
	}
}
