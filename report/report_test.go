package report

import (
	"math"
	"slices"
	"strconv"
	"strings"
	"testing"

	"winnow/api"
	"winnow/refine"
)

// chapter is the chapter's program: a division and an assertion.
const chapter = "var x; input x; x := 10 / x; assert x < 10;"

// The chapter's example 1.
func TestExampleOfLines(t *testing.T) {
	p := mustText(t, chapter)
	wantLines(t, p, []api.Verdict{definite(0, 2, 0), unknown(2)},
		"site 0 division: definite in round 0 at step 2 with tape [0]", "site 1 assert: unknown after round 2")
	wantLines(t, p, []api.Verdict{safe(1), safe(3)},
		"site 0 division: safe in round 1", "site 1 assert: safe in round 3")
}

// The chapter's example 2.
func TestExampleOfRefusals(t *testing.T) {
	p := mustText(t, chapter)
	wantNoLines(t, p, nil, api.ErrArg)
	for _, v := range []api.Verdict{
		{Kind: 3}, safe(-1), safe(4), unknown(-1), unknown(4), definite(-1, 2), definite(4, 2),
		{Kind: api.Safe, Steps: 1}, definite(0, 0), definite(0, 1, 5),
	} {
		wantNoLines(t, p, []api.Verdict{v, unknown(2)}, api.ErrArg)
		wantNoLines(t, p, []api.Verdict{unknown(2), v}, api.ErrArg)
	}
}

// The chapter's example 3.
func TestExampleOfParse(t *testing.T) {
	for _, lines := range [][]string{nil, {}, make([]string, 0, 5)} {
		if verdicts, code, at := Parse(lines); len(verdicts) != 0 || code != api.OK || at != 0 {
			t.Errorf("P27.2: Parse of no lines = %+v, %v, %d", verdicts, code, at)
		}
	}
	for tape, want := range map[string]api.Verdict{
		"[1 -9223372036854775808 0]": definite(3, 4, 1, math.MinInt64, 0),
		"[]":                         definite(3, 4),
	} {
		verdicts, code, at := Parse([]string{"site 0 load: definite in round 3 at step 4 with tape " + tape})
		if code != api.OK || at != 0 || !sameVerdicts(verdicts, []api.Verdict{want}) {
			t.Errorf("P27.2: Parse of the tape %s = %+v, %v, %d, want %+v", tape, verdicts, code, at, want)
		}
	}
}

// The chapter's example 4.
func TestExampleOfWrongLines(t *testing.T) {
	for _, line := range []string{
		"site 1 load: safe in round 0",
		"site 0 loads: safe in round 0",
		"site 0 load: safe in round 00",
		"site 0 load: safe in round 4",
		"site 0 load: safe in round 0 ",
		"site 0 load:  safe in round 0",
		"site 0 load: definite in round 0 at step 1 with tape [1]",
		"site 0 load: definite in round 0 at step 2 with tape [ 1]",
		"site 0 load: definite in round 0 at step 2 with tape [01]",
		"site 0 load: definite in round 0 at step 2 with tape [-0]",
		"site 0 load: definite in round 0 at step 2 with tape [1 ]",
	} {
		wantWrong(t, 0, line)
	}
	wantParse(t, "site 0 load: definite in round 0 at step 2 with tape [1]")
	wantWrong(t, 1, "site 0 load: safe in round 0", "site 0 load: safe in round 0")
}

// calm are so many right lines.
func calm(number int) []string {
	var lines []string
	for site, w := range inTurn(0, number) {
		lines = append(lines, "site "+strconv.Itoa(site)+" "+w+": safe in round 0")
	}
	return lines
}

// The chapter's example 5; P27.2: as many lines as there may be sites, and more.
func TestManyLines(t *testing.T) {
	for number := range api.MaxSites + 1 {
		if !wantParse(t, calm(number)...) {
			t.Errorf("P27.2: %d lines are wrong", number)
		}
	}
	for _, number := range []int{1, 2, 3, 10, 1000} {
		lines := calm(api.MaxSites + number)
		wantWrong(t, api.MaxSites, lines...)
		for _, place := range []int{0, 1, api.MaxSites / 2, api.MaxSites - 1, api.MaxSites, api.MaxSites + number - 1} {
			for _, other := range []string{"", "site 99 load: safe in round 0", lines[place] + " "} {
				wrong := slices.Clone(lines)
				wrong[place] = other
				wantWrong(t, min(place, api.MaxSites), wrong...)
			}
		}
	}
}

// P27.1: each of the five words at each place.
func TestEachWordAtEachPlace(t *testing.T) {
	for number := 1; number <= api.MaxSites; number++ {
		for from := range words {
			list := inTurn(from, number)
			var verdicts []api.Verdict
			for site := range number {
				verdicts = append(verdicts, []api.Verdict{safe(site % 4), unknown(site % 3), definite(site%4, site+1, counted(site)...)}[(site+from)%3])
			}
			wantLines(t, withSites(t, list...), verdicts, expectedLines(list, verdicts)...)
		}
	}
}

// P27.1: sites within one another stand in the order of the tree; operators that are no sites have no line.
func TestSitesWithinOneAnother(t *testing.T) {
	for text, want := range map[string][]string{
		"":                                    nil,
		"var x; array a[1]; x := -x + 2 * x;": nil,
		"var x; array a[3]; a[a[x] / 2] := a[x % 3] - 1;":                                            {"store", "division", "load", "load", "remainder"},
		"var x; array a[3]; assert a[x] / 2 % 3 == 0 || !(x < 1);":                                   {"assert", "remainder", "division", "load"},
		"var x; while x / 2 < 3 { if x % 2 == 0 { assert x != 1 && x != 2; } else { x := x - 1; } }": {"division", "remainder", "assert"},
	} {
		p := mustText(t, text)
		var verdicts []api.Verdict
		for i := range want {
			verdicts = append(verdicts, safe(i%4))
		}
		wantLines(t, p, verdicts, expectedLines(want, verdicts)...)
	}
}

// P27.1: each of the three kinds in each round, at each place.
func TestEachKindInEachRound(t *testing.T) {
	list := inTurn(0, api.MaxSites)
	p := withSites(t, list...)
	for place := range list {
		for round := range api.MaxRounds + 1 {
			for _, v := range []api.Verdict{safe(round), unknown(round), definite(round, 1), definite(round, 7, 1, -2)} {
				verdicts := slices.Repeat([]api.Verdict{safe(2)}, len(list))
				verdicts[place] = v
				wantLines(t, p, verdicts, expectedLines(list, verdicts)...)
			}
		}
	}
	wantLines(t, withSites(t, "load", "load", "load"), []api.Verdict{safe(0), unknown(3), definite(1, 5000, 8)},
		"site 0 load: safe in round 0", "site 1 load: unknown after round 3", "site 2 load: definite in round 1 at step 5000 with tape [8]")
}

// P27.1: tapes, with as many numbers as there may be.
func TestTapes(t *testing.T) {
	p := withSites(t, "store", "remainder")
	for _, c := range []struct {
		tape []int64
		text string
	}{
		{nil, "[]"}, {[]int64{}, "[]"}, {[]int64{0}, "[0]"}, {[]int64{-1}, "[-1]"}, {[]int64{0, 0}, "[0 0]"}, {[]int64{-1, 0, -1, 1}, "[-1 0 -1 1]"},
		{[]int64{math.MinInt64}, "[-9223372036854775808]"}, {[]int64{math.MaxInt64}, "[9223372036854775807]"},
		{[]int64{math.MaxInt64, math.MinInt64, math.MinInt64 + 1, 10, 100, -1000}, "[9223372036854775807 -9223372036854775808 -9223372036854775807 10 100 -1000]"},
		{make([]int64, 4999), "[" + strings.Repeat("0 ", 4998) + "0]"},
		{slices.Repeat([]int64{math.MinInt64}, 4999), "[" + strings.Repeat("-9223372036854775808 ", 4998) + "-9223372036854775808]"},
	} {
		for _, steps := range []int{len(c.tape) + 1, len(c.tape) + 2, 4999, 5000} {
			if steps > 5000 || steps <= len(c.tape) {
				continue
			}
			telling := "definite in round 2 at step " + strconv.Itoa(steps) + " with tape " + c.text
			wantLines(t, p, []api.Verdict{definite(2, steps, c.tape...), unknown(0)}, "site 0 store: "+telling, "site 1 remainder: unknown after round 0")
			wantLines(t, p, []api.Verdict{safe(0), definite(2, steps, c.tape...)}, "site 0 store: safe in round 0", "site 1 remainder: "+telling)
		}
	}
}

// P27.1, P27.3: what an analysis says can be told and read.
func TestWhatAnAnalysisSays(t *testing.T) {
	c := api.Config{Cap: 2, Narrow: 1, Rounds: 2, Fuel: 60, Tries: 2}
	for text, want := range map[string][]string{
		chapter: {"site 0 division: definite in round 0 at step 2 with tape [0]", "site 1 assert: unknown after round 2"},
		"var x; input x; assert x != 7 || false;":                               {"site 0 assert: definite in round 1 at step 2 with tape [7]"},
		"var x; x := 1 / x;":                                                    {"site 0 division: definite in round 0 at step 1 with tape []"},
		"assert 1 / 0 == 0 || true;":                                            {"site 0 assert: safe in round 0", "site 1 division: definite in round 0 at step 1 with tape []"},
		"var x; var y; input x; y := x; assert x == y;":                         {"site 0 assert: unknown after round 2"},
		"array a[4]; var i; while i < 4 { a[i] := i; i := i + 1; }":             {"site 0 store: safe in round 0"},
		"var x; array a[2]; input x; if x > -1 && x < 2 { x := a[x] % 3; }":     {"site 0 remainder: safe in round 0", "site 1 load: safe in round 0"},
		"var x; var y; input x; if x < 0 { y := -x; } x := 0; assert y != 100;": {"site 0 assert: definite in round 1 at step 5 with tape [-100]"},
	} {
		p := mustText(t, text)
		r, code := refine.All(p, c)
		if code != api.OK {
			t.Fatalf("All of %q = %v", text, code)
		}
		wantLines(t, p, r.Verdicts, want...)
	}
}
