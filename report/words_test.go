package report

import (
	"fmt"
	"math/big"
	"regexp"
	"slices"
	"strconv"
	"strings"
	"testing"

	"winnow/api"
	"winnow/check"
)

// words are the five words of sites.
var words = []string{"store", "load", "assert", "division", "remainder"}

// statements have one site each: by its word.
var statements = map[string]string{
	"store": "a[x] := 1; ", "load": "x := a[x]; ", "assert": "assert x < 1; ", "division": "x := 4 / x; ", "remainder": "x := 4 % x; ",
}

func mustText(t testing.TB, text string) api.Prog {
	t.Helper()
	p, err := check.Text(text)
	if err != nil {
		t.Fatalf("Text(%q) is refused: %v", text, err)
	}
	return p
}

// programs are those that withSites has made.
var programs = map[string]api.Prog{}

// withSites is a program whose sites have these words.
func withSites(t testing.TB, words ...string) api.Prog {
	t.Helper()
	text := "var x; array a[2]; "
	for _, w := range words {
		text += statements[w]
	}
	p, made := programs[text]
	if !made {
		p = mustText(t, text)
		programs[text] = p
	}
	return p
}

// inTurn are so many of the five words, from one of them on.
func inTurn(from, number int) []string {
	var list []string
	for i := range number {
		list = append(list, words[(from+i)%len(words)])
	}
	return list
}

// expectedLine is the chapter's line, written another way.
func expectedLine(site int, word string, v api.Verdict) string {
	switch v.Kind {
	case api.Safe:
		return fmt.Sprintf("site %d %s: safe in round %d", site, word, v.Round)
	case api.Unknown:
		return fmt.Sprintf("site %d %s: unknown after round %d", site, word, v.Round)
	}
	return fmt.Sprintf("site %d %s: definite in round %d at step %d with tape %d", site, word, v.Round, v.Steps, v.Tape)
}

func expectedLines(words []string, verdicts []api.Verdict) []string {
	var lines []string
	for site, v := range verdicts {
		lines = append(lines, expectedLine(site, words[site], v))
	}
	return lines
}

// may is whether there may be a verdict, by the chapter's words.
func may(v api.Verdict) bool {
	round := 0 <= v.Round && v.Round <= 3
	if v.Kind == 2 {
		return round && 1 <= v.Steps && v.Steps <= 5000 && len(v.Tape) < v.Steps
	}
	return round && (v.Kind == 0 || v.Kind == 1) && v.Steps == 0 && len(v.Tape) == 0
}

// pattern says the chapter's line another way; of its numbers it says how they look alone.
var pattern = regexp.MustCompile(`\Asite (0|[1-9][0-9]*) (store|load|assert|division|remainder): (?:(safe in|unknown after|definite in) round ([0-3]))(?: at step ([1-9][0-9]*) with tape \[((?:(?:0|-?[1-9][0-9]*)(?: (?:0|-?[1-9][0-9]*))*)?)\])?\z`)

// expectedVerdict is the verdict of a line by the pattern, with the site's word; false: it isn't the line of that site.
func expectedVerdict(line string, site int) (api.Verdict, string, bool) {
	m := pattern.FindStringSubmatch(line)
	if m == nil || m[1] != fmt.Sprint(site) {
		return api.Verdict{}, "", false
	}
	v := api.Verdict{Kind: map[string]api.VerdictKind{"unknown after": 0, "safe in": 1, "definite in": 2}[m[3]], Round: int(m[4][0] - '0')}
	for _, text := range strings.Fields(m[6]) {
		n, _ := new(big.Int).SetString(text, 10)
		if !n.IsInt64() {
			return api.Verdict{}, "", false
		}
		v.Tape = append(v.Tape, n.Int64())
	}
	if m[5] != "" {
		steps, err := strconv.Atoi(m[5])
		if err != nil {
			return api.Verdict{}, "", false
		}
		v.Steps = steps
	}
	return v, m[2], may(v)
}

// expected is what Parse answers by the chapter's words, with the words of the lines.
func expected(lines []string) (verdicts []api.Verdict, words []string, code api.Errno, at int) {
	for i, line := range lines {
		v, word, ok := expectedVerdict(line, i)
		if i == 12 || !ok {
			return nil, nil, 270, i
		}
		verdicts, words = append(verdicts, v), append(words, word)
	}
	return verdicts, words, 0, 0
}

func sameVerdicts(a, b []api.Verdict) bool {
	return slices.EqualFunc(a, b, func(v, w api.Verdict) bool {
		return v.Kind == w.Kind && v.Round == w.Round && v.Steps == w.Steps && slices.Equal(v.Tape, w.Tape)
	})
}

// wantLines holds Lines against the lines, whatever Posts is, and what Parse reads of them against the verdicts.
func wantLines(t *testing.T, p api.Prog, verdicts []api.Verdict, want ...string) {
	t.Helper()
	for _, posts := range []int{9, 0, -1, -1 << 63, 1<<63 - 1} {
		lines, code := Lines(p, api.Result{Verdicts: verdicts, Posts: posts})
		if code != api.OK || !slices.Equal(lines, want) {
			t.Errorf("P27.1: Lines of %+v = %q, %v, want %q", verdicts, lines, code, want)
		}
	}
	if read, code, at := Parse(want); code != api.OK || at != 0 || !sameVerdicts(read, verdicts) {
		t.Errorf("P27.3: Parse(%q) = %+v, %v, %d, want %+v", want, read, code, at, verdicts)
	}
}

// wantNoLines holds that Lines refuses, whatever Posts is.
func wantNoLines(t *testing.T, p api.Prog, verdicts []api.Verdict, want api.Errno) {
	t.Helper()
	for _, posts := range []int{0, 9, -1, -1 << 63, 1<<63 - 1} {
		lines, code := Lines(p, api.Result{Verdicts: verdicts, Posts: posts})
		if code != want || len(lines) != 0 {
			t.Errorf("P27.1: Lines of %d sites, %+v = %q, %v, want %v", len(p.Sites), verdicts, lines, code, want)
		}
	}
}

// wantWrong holds that Parse refuses, and where.
func wantWrong(t *testing.T, want int, lines ...string) {
	t.Helper()
	verdicts, code, at := Parse(lines)
	if code != api.ErrLine || at != want || len(verdicts) != 0 {
		t.Errorf("P27.2: Parse(%q) = %+v, %v, %d, want ErrLine, %d", lines, verdicts, code, at, want)
	}
}

// wantParse holds Parse against the chapter's words; what it reads is written again and held against the lines. It tells whether they are right.
func wantParse(t *testing.T, lines ...string) bool {
	t.Helper()
	want, words, code, at := expected(lines)
	if code != api.OK {
		wantWrong(t, at, lines...)
		return false
	}
	verdicts, code, at := Parse(lines)
	if code != api.OK || at != 0 || !sameVerdicts(verdicts, want) {
		t.Errorf("P27.2: Parse(%q) = %+v, %v, %d, want %+v", lines, verdicts, code, at, want)
	}
	again, code := Lines(withSites(t, words...), api.Result{Verdicts: verdicts})
	if code != api.OK || !slices.Equal(again, lines) {
		t.Errorf("P27.3: Lines of what Parse reads = %q, %v, want %q", again, code, lines)
	}
	return true
}

func safe(round int) api.Verdict { return api.Verdict{Kind: api.Safe, Round: round} }

func unknown(round int) api.Verdict { return api.Verdict{Kind: api.Unknown, Round: round} }

func definite(round, steps int, tape ...int64) api.Verdict {
	return api.Verdict{Kind: api.Definite, Round: round, Steps: steps, Tape: tape}
}

// counted is a tape of so many numbers.
func counted(number int) []int64 {
	tape := make([]int64, max(number, 0))
	for i := range tape {
		tape[i] = int64(i*i) - 7
	}
	return tape
}
