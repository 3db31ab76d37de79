package refine

import (
	"fmt"
	"math"
	"os"
	"runtime/debug"
	"strings"
	"testing"

	"winnow/api"
	"winnow/check"
	"winnow/env"
	"winnow/fwd"
	"winnow/num"
	"winnow/part"
)

// The layers below make much that is used for a moment only: collected at each turn of a small heap, that takes more time than the tests do.
func TestMain(m *testing.M) {
	debug.SetGCPercent(800)
	os.Exit(m.Run())
}

// short has three vertices in a row, and one site.
const short = "var x; input x; assert x > 0;"

// branches is the chapter's program with two ifs.
const branches = "var x; var y; input x; if x > 0 { y := 1; } else { y := 0; } if y == 1 { assert x > 0; }"

// twins has two numbers that are the same, which no table knows.
const twins = "var x; var y; input x; y := x; if x == 1 { assert y == 1; }"

// seven is safe of all but one number.
const seven = "var x; input x; assert x != 7 || false;"

// loop has nodes that are told apart by Unroll and by Hist, and merged by a small Cap.
const loop = "var x; array a[2]; var y; input x; if x < 0 { x := 1; } else { skip; } while x < 4 { a[x % 2] := y; x := x + 1; input y; } assert y != 6;"

// everything is a program that has each kind of edge, and each kind of node.
const everything = "var x; array a[2]; var y; x := -1; a[x] := 3 / y; input y; assert a[0] < 4 && !(x == y); skip; " +
	"if x < y || false { skip; } else { y := x % 2; } while x < 2 { x := x + 1; if y < 0 { } while y < 3 { input y; } }"

// plain is a configuration in which no vertices are told apart.
func plain() api.Config { return api.Config{Cap: 1, Narrow: 1} }

// rounded is plain with some rounds, tries and steps.
func rounded(rounds, tries, fuel int) api.Config {
	return api.Config{Cap: 1, Narrow: 1, Rounds: rounds, Tries: tries, Fuel: fuel}
}

func mustText(t testing.TB, text string) api.Prog {
	t.Helper()
	p, err := check.Text(text)
	if err != nil {
		t.Fatalf("Text(%q) is refused: %v", text, err)
	}
	return p
}

func mustSplit(t testing.TB, p api.Prog, c api.Config) api.Part {
	t.Helper()
	x, code := part.Split(p, c)
	if code != api.OK {
		t.Fatalf("Split with %+v = %v", c, code)
	}
	return x
}

func zeros(t testing.TB, p api.Prog) api.Env {
	t.Helper()
	e, code := env.Zero(p)
	if code != api.OK {
		t.Fatalf("Zero = %v", code)
	}
	return e
}

func top(t testing.TB, p api.Prog) api.Env {
	t.Helper()
	e, code := env.Top(p)
	if code != api.OK {
		t.Fatalf("Top = %v", code)
	}
	return e
}

// tops is the table of all stores.
func tops(t testing.TB, p api.Prog, c api.Config) api.Table {
	t.Helper()
	return filled(len(mustSplit(t, p, c).Verts), top(t, p))
}

// ahead is the table of the forward pass from the store of zeros, without a limit, and its applications.
func ahead(t testing.TB, p api.Prog, c api.Config) (api.Table, int) {
	t.Helper()
	u, number, code := fwd.Run(p, c, zeros(t, p), nil)
	if code != api.OK {
		t.Fatalf("fwd.Run with %+v = %v", c, code)
	}
	return u, number
}

// firstOf is the first table of an analysis.
func firstOf(t testing.TB, p api.Prog, c api.Config) api.Table {
	t.Helper()
	u, _ := ahead(t, p, c)
	return u
}

func lost() api.Env { return api.Env{Dead: true} }

// vars is an Env of scalars alone.
func vars(list ...api.Num) api.Env { return api.Env{Vars: list} }

// both is an Env of scalars and arrays.
func both(vars, arrays []api.Num) api.Env { return api.Env{Vars: vars, Arrays: arrays} }

func list(l ...api.Num) []api.Num { return l }

func in(lo, hi int64) api.Num { return num.Range(lo, hi) }

func is(v int64) api.Num { return num.Const(v) }

func from(v int64) api.Num { return num.Range(v, math.MaxInt64) }

func upTo(v int64) api.Num { return num.Range(math.MinInt64, v) }

// raw is a Num as it is written, which need not be in its normal form.
func raw(lo, hi int64, m, r uint64) api.Num {
	return api.Num{I: api.Ival{Lo: lo, Hi: hi}, C: api.Cong{M: m, R: r}}
}

// tellTable is a table's text: all fields of its Envs, so that nothing but nil and empty is alike.
func tellTable(t api.Table) string {
	var words []string
	for _, e := range t {
		words = append(words, fmt.Sprint(e.Dead, len(e.Vars), e.Vars, len(e.Arrays), e.Arrays))
	}
	return strings.Join(words, "; ")
}

func tellTables(tables []api.Table) string {
	var words []string
	for _, t := range tables {
		words = append(words, fmt.Sprint(len(t), ": ", tellTable(t)))
	}
	return strings.Join(words, " | ")
}

func tellVerdict(v api.Verdict) string { return fmt.Sprintf("%+v", v) }

func tellResult(r api.Result) string {
	return fmt.Sprintf("%d %+v %d", len(r.Verdicts), r.Verdicts, r.Posts)
}

// filled is a table of so many Envs, all alike, each in memory of its own.
func filled(number int, e api.Env) api.Table {
	t := api.Table{}
	for range number {
		t = append(t, copied(e))
	}
	return t
}

func copied(e api.Env) api.Env {
	return api.Env{Dead: e.Dead, Vars: append([]api.Num(nil), e.Vars...), Arrays: append([]api.Num(nil), e.Arrays...)}
}

// except is a table with e at one place.
func except(t api.Table, place int, e api.Env) api.Table {
	u := append(api.Table(nil), t...)
	u[place] = e
	return u
}

func unknown(round int) api.Verdict { return api.Verdict{Kind: api.Unknown, Round: round} }

func safe(round int) api.Verdict { return api.Verdict{Kind: api.Safe, Round: round} }

func definite(round, steps int, tape ...int64) api.Verdict {
	return api.Verdict{Kind: api.Definite, Round: round, Tape: tape, Steps: steps}
}

// wantSite holds an answer of Site, to the letter.
func wantSite(t testing.TB, p api.Prog, c api.Config, first api.Table, site int, verdict api.Verdict, applications int, tables ...api.Table) {
	t.Helper()
	v, got, number, code := Site(p, c, first, site)
	if code != api.OK {
		t.Errorf("P25.1: Site %d with %+v by %v = %v", site, c, first, code)
	}
	if tellVerdict(v) != tellVerdict(verdict) {
		t.Errorf("P25.1: Site %d with %+v by %v = %+v, want %+v", site, c, first, v, verdict)
	}
	if len(got) != len(tables) || tellTables(got) != tellTables(tables) {
		t.Errorf("P25.1: Site %d with %+v by %v: the tables %v, want %v", site, c, first, got, tables)
	}
	if number != applications {
		t.Errorf("P25.1: Site %d with %+v by %v has %d applications, want %d", site, c, first, number, applications)
	}
}

// wantAll holds the verdicts that All answers.
func wantAll(t testing.TB, text string, c api.Config, verdicts ...api.Verdict) {
	t.Helper()
	r, code := All(mustText(t, text), c)
	if code != api.OK || fmt.Sprint(len(r.Verdicts), r.Verdicts) != fmt.Sprint(len(verdicts), verdicts) {
		t.Errorf("P25.2: All of %q with %+v = %+v, %v, want %+v", text, c, r, code, verdicts)
	}
}

// The chapter's example 1.
func TestExampleOfAnInput(t *testing.T) {
	for rounds, told := range []int{0, 1, 2, 2} {
		for _, fuel := range []int{0, 2, 9} {
			wantAll(t, short, rounded(rounds, 0, fuel), unknown(told))
			wantAll(t, short, rounded(rounds, 1, fuel), []api.Verdict{unknown(told), definite(0, 2, 0)}[min(fuel, 1)])
		}
		wantAll(t, short, rounded(rounds, 1, 1), unknown(told))
	}
	p, c := mustText(t, short), rounded(3, 0, 0)
	faulty := api.Table{vars(is(0)), vars(upTo(0)), lost()}
	wantSite(t, p, c, firstOf(t, p, c), 0, unknown(2), 24, faulty, faulty, faulty, faulty)
}

// The chapter's example 2.
func TestExampleOfBranches(t *testing.T) {
	wantAll(t, branches, rounded(0, 0, 0), unknown(0))
	wantAll(t, branches, rounded(1, 0, 0), safe(1))
	for rounds := range api.MaxRounds + 1 {
		wantAll(t, branches, api.Config{Hist: 1, Cap: 6, Rounds: rounds}, safe(0))
	}
	p, c := mustText(t, branches), rounded(1, 0, 0)
	_, tables, _, code := Site(p, c, firstOf(t, p, c), 0)
	faulty := vars(upTo(0), is(1))
	if code != api.OK || len(tables) != 1 || tellTable(tables[0][4:]) != tellTable(api.Table{faulty, faulty, lost()}) || !tables[0][2].Dead || !tables[0][3].Dead {
		t.Errorf("P25.1: what faults is %v, %v", tables, code)
	}
}

// The chapter's example 3.
func TestExampleOfStraightPrograms(t *testing.T) {
	text := "var x; x := 7; assert x == 7;"
	for rounds := range api.MaxRounds + 1 {
		for tries := range api.MaxTries + 1 {
			c := rounded(rounds, tries, 9)
			p := mustText(t, text)
			wantSite(t, p, c, firstOf(t, p, c), 0, safe(0), 0)
			wantAll(t, text, c, safe(0))
		}
		wantAll(t, "assert false;", rounded(rounds, 0, 1), unknown(min(rounds, 1)))
		wantAll(t, "assert false;", rounded(rounds, 1, 0), unknown(min(rounds, 1)))
		wantAll(t, "assert false;", rounded(rounds, 1, 1), definite(0, 1))
	}
}

// DOC.md's examples of the whole.
func TestExamplesOfTheWhole(t *testing.T) {
	wantAll(t, short, rounded(0, 1, 9), definite(0, 2, 0))
	wantAll(t, short, rounded(0, 0, 9), unknown(0))
	wantAll(t, branches, rounded(0, 0, 0), unknown(0))
	wantAll(t, branches, rounded(1, 0, 0), safe(1))
	wantAll(t, branches, api.Config{Hist: 1, Cap: 2}, safe(0))
	wantAll(t, seven, rounded(0, 1, 9), unknown(0))
	wantAll(t, seven, rounded(1, 1, 9), definite(1, 2, 7))
	filling := "array a[4]; var i; while i < 4 { a[i] := i; i := i + 1; }"
	wantAll(t, filling, api.Config{Cap: 1, Thresholds: []int64{4}}, safe(0))
	wantAll(t, filling, plain(), safe(0))
	wantAll(t, "var i; while i >= 0 { i := i + 1; } assert i < 0;", plain(), safe(0))
	wantAll(t, "var x; input x; x := x * 4; assert x % 2 == 0;", plain(), safe(0), safe(0))
	wantAll(t, "var x; x := 1 / x;", rounded(0, 1, 1), definite(0, 1))
	wantAll(t, "var x; if x != 0 { x := 1 / x; }", plain(), safe(0))
	wantAll(t, "assert 1 / 0 == 0 || true;", rounded(0, 1, 1), safe(0), definite(0, 1))
	for _, text := range []string{"", "var x;", "skip;", "var x; while x < 3 { x := x + 1; }"} {
		wantAll(t, text, rounded(3, 4, 9))
	}
}
