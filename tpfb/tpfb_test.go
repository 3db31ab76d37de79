package tpfb

import (
	"errors"
	"fmt"
	"math"
	"os"
	"runtime/debug"
	"strings"
	"testing"

	"winnow/api"
	"winnow/check"
)

// The layers below make much that is used for a moment only: collected at each turn of a small heap, that takes more time than the tests do.
func TestMain(m *testing.M) {
	debug.SetGCPercent(800)
	os.Exit(m.Run())
}

// short has one site, at which a run faults on each number that isn't above 0.
const short = "var x; input x; assert x > 0;"

// branches is chapter 25's program with two ifs.
const branches = "var x; var y; input x; if x > 0 { y := 1; } else { y := 0; } if y == 1 { assert x > 0; }"

// seven is safe of all but one number.
const seven = "var x; input x; assert x != 7 || false;"

// filling stores at each place of an array.
const filling = "array a[4]; var i; while i < 4 { a[i] := i; i := i + 1; }"

// wrapped is left by a number that wrapped alone.
const wrapped = "var i; while i >= 0 { i := i + 1; } assert i < 0;"

// fourfold has a remainder and an assertion.
const fourfold = "var x; input x; x := x * 4; assert x % 2 == 0;"

// copies have numbers that are the same two by two, which no table knows: what one round tells of y tells of v, and so of w in the next one.
const copies = "var x; var y; var w; var v; input x; input w; y := x; v := w; if x == 1 { if y + v == 5 { "

// chain goes on for one round more.
const chain = "var x; var y; var w; var v; var u; var s; var t; input x; input w; input t; y := x; v := w; u := w; s := t; if x == 1 { if y + v == 5 { if u + s == 9 { "

// loop has nodes that are told apart by Unroll and by Hist, and merged by a small Cap.
const loop = "var x; array a[2]; var y; input x; if x < 0 { x := 1; } else { skip; } while x < 4 { a[x % 2] := y; x := x + 1; input y; } assert y != 6;"

// everything is a program that has each kind of edge, and each kind of node.
const everything = "var x; array a[2]; var y; x := -1; a[x] := 3 / y; input y; assert a[0] < 4 && !(x == y); skip; " +
	"if x < y || false { skip; } else { y := x % 2; } while x < 2 { x := x + 1; if y < 0 { } while y < 3 { input y; } }"

// plain is a configuration in which no vertices are told apart.
func plain() api.Config { return api.Config{Cap: 1, Narrow: 1} }

// rounded is plain with some rounds, tries and steps.
func rounded(rounds, tries, fuel int) api.Config {
	return api.Config{Cap: 1, Narrow: 1, Rounds: rounds, Tries: tries, Fuel: fuel}
}

func mustText(t testing.TB, text string) api.Prog {
	t.Helper()
	p, err := check.Text(text)
	if err != nil {
		t.Fatalf("Text(%q) is refused: %v", text, err)
	}
	return p
}

func unknown(round int) api.Verdict { return api.Verdict{Kind: api.Unknown, Round: round} }

func safe(round int) api.Verdict { return api.Verdict{Kind: api.Safe, Round: round} }

func definite(round, steps int, tape ...int64) api.Verdict {
	return api.Verdict{Kind: api.Definite, Round: round, Tape: tape, Steps: steps}
}

func tellVerdict(v api.Verdict) string { return fmt.Sprintf("%+v", v) }

// tellResult is all that a Result says; nothing but nil and empty is alike.
func tellResult(r api.Result) string {
	return fmt.Sprintf("%d %+v %d", len(r.Verdicts), r.Verdicts, r.Posts)
}

// analyzed is a Result that mustn't be refused.
func analyzed(t testing.TB, text string, c api.Config) api.Result {
	t.Helper()
	r, err := Analyze(text, c)
	if err != nil {
		t.Fatalf("P28.1: Analyze of %q with %+v = %+v, %v", text, c, r, err)
	}
	return r
}

// wantVerdicts holds the verdicts that Analyze answers.
func wantVerdicts(t testing.TB, text string, c api.Config, verdicts ...api.Verdict) {
	t.Helper()
	r := analyzed(t, text, c)
	if fmt.Sprint(len(r.Verdicts), r.Verdicts) != fmt.Sprint(len(verdicts), verdicts) {
		t.Errorf("P28.1: Analyze of %q with %+v = %+v, want %+v", text, c, r, verdicts)
	}
}

// wantReport holds the text that Report answers.
func wantReport(t testing.TB, text string, c api.Config, want string) {
	t.Helper()
	if s, err := Report(text, c); s != want || err != nil {
		t.Errorf("P28.2: Report of %q with %+v = %q, %v, want %q", text, c, s, err, want)
	}
}

// wantFault holds an error against the fault that it must be.
func wantFault(t testing.TB, what string, err error, want api.Fault) {
	t.Helper()
	var fault *api.Fault
	var code api.Errno
	switch {
	case err == nil:
		t.Errorf("P28.1: %s: no error, want %v at %d", what, want.Code, want.At)
	case !errors.As(err, &fault) || *fault != want:
		t.Errorf("P28.1: %s: %v, want %v at %d", what, err, want.Code, want.At)
	case !errors.As(err, &code) || code != want.Code || !errors.Is(err, want.Code):
		t.Errorf("P28.4: %s: errors.As finds %v in %v", what, code, err)
	case errors.Is(err, api.ErrReject) != (want.Of == api.ErrReject) || errors.Is(err, api.ErrConfig) != (want.Of == api.ErrConfig):
		t.Errorf("P28.4: %s: errors.Is finds the wrong kind in %v", what, err)
	}
}

// wantRefused holds that both calls refuse a text with a configuration.
func wantRefused(t testing.TB, text string, c api.Config, want api.Fault) {
	t.Helper()
	what := fmt.Sprintf("%.60q with %+v", text, c)
	r, err := Analyze(text, c)
	wantFault(t, "Analyze of "+what, err, want)
	s, err2 := Report(text, c)
	wantFault(t, "Report of "+what, err2, want)
	if r.Verdicts != nil || r.Posts != 0 || s != "" {
		t.Errorf("P28.1: %s is refused, but %+v, %q", what, r, s)
	}
}

func ofText(code api.Errno, at int) api.Fault {
	return api.Fault{Code: code, At: at, Of: api.ErrReject}
}

func ofConfig(code api.Errno) api.Fault { return api.Fault{Code: code, At: -1, Of: api.ErrConfig} }

// The chapter's example 1.
func TestExampleOfRefusals(t *testing.T) {
	wantRefused(t, "x := 1;", api.Config{}, ofText(api.ErrNone, 0))
	wantRefused(t, "", api.Config{}, ofConfig(api.ErrCap))
	r, err := Analyze("", api.Config{Cap: 1})
	if err != nil || len(r.Verdicts) != 0 || r.Posts != 0 {
		t.Errorf("P28.1: Analyze of the empty text = %+v, %v", r, err)
	}
	wantReport(t, "", api.Config{Cap: 1}, "")
}

// The chapter's example 2.
func TestExampleOfAnAnalysis(t *testing.T) {
	c := api.Config{Cap: 1, Delay: 1, Rounds: 1}
	wantVerdicts(t, branches, c, safe(1))
	wantReport(t, branches, c, "site 0 assert: safe in round 1\n")
}

// DOC.md's ten examples of the whole, but for the tenth, and that the ninth is refused, which other tests hold.
func TestExamplesOfTheWhole(t *testing.T) {
	for _, fuel := range []int{2, 3, 9, api.MaxFuel} {
		wantVerdicts(t, short, rounded(0, 1, fuel), definite(0, 2, 0))
		wantVerdicts(t, short, rounded(0, 0, fuel), unknown(0))
		wantVerdicts(t, seven, rounded(0, 1, fuel), unknown(0))
		wantVerdicts(t, seven, rounded(1, 1, fuel), definite(1, 2, 7))
	}
	wantVerdicts(t, branches, rounded(0, 0, 0), unknown(0))
	wantVerdicts(t, branches, rounded(1, 0, 0), safe(1))
	wantVerdicts(t, branches, api.Config{Hist: 1, Cap: 2}, safe(0))
	wantVerdicts(t, filling, api.Config{Cap: 1, Thresholds: []int64{4}}, safe(0))
	wantVerdicts(t, filling, plain(), safe(0))
	wantVerdicts(t, wrapped, plain(), safe(0))
	wantVerdicts(t, fourfold, plain(), safe(0), safe(0))
	wantVerdicts(t, "var x; x := 1 / x;", rounded(0, 1, 1), definite(0, 1))
	wantVerdicts(t, "var x; if x != 0 { x := 1 / x; }", plain(), safe(0))
	wantVerdicts(t, "assert 1 / 0 == 0 || true;", rounded(0, 1, 1), safe(0), definite(0, 1))
	wantVerdicts(t, "", plain())
}

// DOC.md's ten examples of the whole, told as texts.
func TestReportsOfTheWhole(t *testing.T) {
	wantReport(t, short, rounded(0, 1, 9), "site 0 assert: definite in round 0 at step 2 with tape [0]\n")
	wantReport(t, short, rounded(0, 0, 9), "site 0 assert: unknown after round 0\n")
	wantReport(t, branches, api.Config{Hist: 1, Cap: 2}, "site 0 assert: safe in round 0\n")
	wantReport(t, seven, rounded(1, 1, 9), "site 0 assert: definite in round 1 at step 2 with tape [7]\n")
	wantReport(t, filling, plain(), "site 0 store: safe in round 0\n")
	wantReport(t, wrapped, plain(), "site 0 assert: safe in round 0\n")
	wantReport(t, fourfold, plain(), "site 0 assert: safe in round 0\nsite 1 remainder: safe in round 0\n")
	wantReport(t, "var x; x := 1 / x;", rounded(0, 1, 1), "site 0 division: definite in round 0 at step 1 with tape []\n")
	wantReport(t, "assert 1 / 0 == 0 || true;", rounded(0, 1, 1), "site 0 assert: safe in round 0\nsite 1 division: definite in round 0 at step 1 with tape []\n")
	wantReport(t, "", plain(), "")
}

// P28.2: verdicts of each kind, in each round.
func TestReportsOfEachKind(t *testing.T) {
	wantLine := func(text string, rounds, tries int, want string) {
		t.Helper()
		wantReport(t, text, rounded(rounds, tries, 60), "site 0 assert: "+want+"\n")
	}
	wantLine("assert true;", 0, 0, "safe in round 0")
	wantLine(branches, 1, 0, "safe in round 1")
	wantLine(copies+"assert w == 4; } }", 2, 0, "safe in round 2")
	wantLine(chain+"assert t == 5; } } }", 3, 0, "safe in round 3")
	for rounds := range api.MaxRounds + 1 {
		wantLine(chain+"assert false; } } }", rounds, 0, fmt.Sprint("unknown after round ", rounds))
	}
	wantLine("assert false;", 3, 0, "unknown after round 1")
	wantLine(short, 3, 0, "unknown after round 2")
	wantLine(short, 3, 1, "definite in round 0 at step 2 with tape [0]")
	wantLine(short, 3, 2, "definite in round 0 at step 2 with tape [0]")
	wantLine("var x; input x; assert x > -9;", 3, 2, "definite in round 0 at step 2 with tape [-9223372036854775808]")
	wantLine(seven, 3, 4, "definite in round 1 at step 2 with tape [7]")
	wantLine(copies+"assert false; } }", 3, 1, "definite in round 2 at step 7 with tape [1 4]")
	wantLine(chain+"assert false; } } }", 3, 1, "definite in round 3 at step 11 with tape [1 4 5]")
}

// P28.2: a line a site, with the word of each, and each line ended.
func TestReportsOfSeveralSites(t *testing.T) {
	text := "array a[2]; var x; input x; a[x] := a[1] / 3 % 2; assert x < 1;"
	wantReport(t, text, rounded(0, 0, 9), "site 0 store: unknown after round 0\n"+
		"site 1 remainder: safe in round 0\nsite 2 division: safe in round 0\nsite 3 load: safe in round 0\nsite 4 assert: unknown after round 0\n")
	wantReport(t, text, rounded(1, 3, 9), "site 0 store: definite in round 0 at step 2 with tape [-9223372036854775808]\n"+
		"site 1 remainder: safe in round 0\nsite 2 division: safe in round 0\nsite 3 load: safe in round 0\nsite 4 assert: definite in round 1 at step 3 with tape [1]\n")
}

// P28.1: texts of blanks and comments alone; they have no edge, so there is no application. With declarations alone there is none either.
func TestTextsThatSayNothing(t *testing.T) {
	for _, text := range []string{
		"", " ", "\t\r\n ", "# nothing", "# x := 1;\n", " # a\n# b\n\n#", "#\n#\xff\x00\n", "var x;", "array a[1];", "var x; array a[16]; # var x;",
		strings.Repeat(" ", api.MaxSource), "#" + strings.Repeat("\xff", api.MaxSource-1),
	} {
		for _, c := range corners() {
			if r := analyzed(t, text, c); len(r.Verdicts) != 0 || r.Posts != 0 {
				t.Errorf("P28.1: Analyze of %.60q with %+v = %+v", text, c, r)
			}
			wantReport(t, text, c, "")
		}
	}
}

// P28.1: programs that can't fault have no verdicts, but they are analysed.
func TestNoSites(t *testing.T) {
	for _, text := range []string{
		"skip;", "var x; input x; if x < 3 { x := -x; } else { }", "var x; while x < 3 { x := x + 1; }", "while true { skip; }", "if false { }",
	} {
		for _, c := range corners() {
			if r := analyzed(t, text, c); len(r.Verdicts) != 0 || r.Posts < 1 {
				t.Errorf("P28.1: Analyze of %.60q with %+v = %+v", text, c, r)
			}
			wantReport(t, text, c, "")
		}
	}
}

// P28.1: one site, and as many as there may be.
func TestNumbersOfSites(t *testing.T) {
	for number := range api.MaxSites + 1 {
		c := rounded(number%4, 4, 60)
		text, want, told := "", []api.Verdict(nil), ""
		for site := range number {
			text += "assert true; "
			want = append(want, safe(0))
			told += fmt.Sprintf("site %d assert: safe in round 0\n", site)
		}
		wantVerdicts(t, text, c, want...)
		wantReport(t, text, c, told)
		if number < api.MaxSites {
			wantVerdicts(t, "assert false; "+text, c, append([]api.Verdict{definite(0, 1)}, want...)...)
		}
	}
}

// corners are configurations with the fields at their least and greatest numbers, and some between.
func corners() []api.Config {
	list := []api.Config{
		{Cap: 1}, plain(), rounded(1, 0, 0), rounded(2, 1, 1), rounded(3, 4, 60), rounded(1, 2, 9),
		{Hist: 1, Unroll: 1, Cap: 2, Narrow: 2, Rounds: 2, Fuel: 40, Tries: 1},
		{Hist: 2, Unroll: 2, Cap: 3, Delay: 2, Rounds: 1, Thresholds: []int64{-3, 4}},
		{Hist: 1, Unroll: 2, Cap: 4, Delay: 1, Narrow: 1, Rounds: 3, Fuel: 1, Tries: 4},
	}
	for _, h := range []int{0, api.MaxHist} {
		for _, u := range []int{0, api.MaxUnroll} {
			for _, most := range []int{1, api.MaxCap} {
				list = append(list,
					api.Config{Hist: h, Unroll: u, Cap: most, Narrow: h, Delay: 2 * u, Rounds: 1 + u/2, Fuel: u % 2, Tries: 1},
					api.Config{Hist: h, Unroll: u, Cap: most, Narrow: u, Delay: h, Rounds: 3, Fuel: 60, Tries: 4, Thresholds: []int64{math.MinInt64, -1, 0, 5, 6, math.MaxInt64}})
			}
		}
	}
	return list
}

// texts are programs of each shape, straight, with ifs, with loops, with loops in loops and with arrays; with sites ahead of, in and behind loops, several in one statement and in one condition.
func texts() []string {
	return []string{
		"assert false;", "assert true;", short, seven, branches, filling, wrapped, fourfold, "var x; x := 1 / x;", "assert 1 / 0 == 0 || true;",
		"var x; var y; input x; y := x; if x == 1 { assert y == 1; }",
		"var x; x := 1; x := 2 / x;", "var x; input x; assert x < 100;", "var x; input x; x := x * x; assert x % 4 != 2;",
		"var x; var y; input x; input y; if x == 12 { assert y != 34; } assert x + y != 5;",
		"var x; var y; x := 1; y := 7 / x + 5 % y; x := x / y;",
		"var x; input x; if 6 / x > 1 && 8 % (x - 2) == 0 { assert x != 1; } else { } x := x / (x - 3);",
		"var x; input x; assert x < 9; while x < 100 { x := x + 2; assert x != 51; } assert x == 100;",
		"var x; var y; input y; while x < 5 { x := x + 1; } assert y != 7;", "var x; while true { } assert x == 0;",
		"var x; input x; while 6 / x > 1 || x == 9 / x { x := x - 1; input x; }",
		"var x; var y; input y; while x < y { x := x + 1; if x == 7 { y := y / (x - 6); } } assert y != x;",
		"var x; var y; while x < 3 { input y; x := x + 1; } if y == 77 { assert x < 3; }",
		"var x; var y; while x < 5 { y := 0; while y < x { y := y + 2; } x := x + 1; } assert x == 5; assert y != 4;",
		"var x; var y; while x < 2 { while y < 2 { y := y + 1; input x; assert x + y < 3; } x := x + 1; }",
		"array a[1]; array b[3]; var i; input i; a[0] := i; b[a[0] - 6] := b[i] / a[0]; while i < 3 { b[i] := a[0] / (i + 1); i := i + 1; }",
		"array a[2]; var x; input x; a[x] := 5; if a[1] == 5 { assert x != 1; }",
		copies + "assert false; } }", copies + "assert w == 4; } }", chain + "assert false; } } }", loop, everything,
	}
}
