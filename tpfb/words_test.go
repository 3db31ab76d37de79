package tpfb

import (
	"errors"
	"fmt"
	"slices"
	"strings"
	"testing"

	"winnow/api"
	"winnow/check"
	"winnow/config"
	"winnow/env"
	"winnow/fwd"
	"winnow/refine"
	"winnow/report"
)

// words is what both calls answer by the chapter: the error, or the result and the text.
type words struct {
	fault  *api.Fault
	result api.Result
	text   string
}

// byWords asks the layers one behind the other.
func byWords(t testing.TB, text string, c api.Config) words {
	t.Helper()
	p, err := check.Text(text)
	if err == nil {
		err = config.Check(c)
	}
	var w words
	if errors.As(err, &w.fault) {
		return w
	}
	result, code := refine.All(p, c)
	lines, code2 := report.Lines(p, result)
	if code != api.OK || code2 != api.OK {
		t.Fatalf("P28.1: %q with %+v is refused late: %v, %v", text, c, code, code2)
	}
	w.result = result
	for _, line := range lines {
		w.text += line + "\n"
	}
	return w
}

// wantWords holds what both calls answer against the chapter.
func wantWords(t testing.TB, text string, c api.Config, seen map[string]int) words {
	t.Helper()
	w := byWords(t, text, c)
	if w.fault != nil {
		wantRefused(t, text, c, *w.fault)
		seen["refused by "+w.fault.Code.Error()]++
	} else {
		if r := analyzed(t, text, c); tellResult(r) != tellResult(w.result) {
			t.Errorf("P28.1: Analyze of %q with %+v = %+v, want %+v", text, c, r, w.result)
		}
		wantReport(t, text, c, w.text)
		wantLines(t, text, w)
		seen["taken"]++
	}
	if t.Failed() {
		t.FailNow()
	}
	return w
}

// wantLines holds that a report has a line for each verdict, which is read back as it.
func wantLines(t testing.TB, text string, w words) {
	t.Helper()
	lines := slices.Collect(strings.Lines(w.text))
	for i, line := range lines {
		lines[i] = strings.TrimSuffix(line, "\n")
	}
	verdicts, code, place := report.Parse(lines)
	if code != api.OK || fmt.Sprint(len(verdicts), verdicts) != fmt.Sprint(len(w.result.Verdicts), w.result.Verdicts) || strings.Count(w.text, "\n") != len(verdicts) {
		t.Errorf("P28.2: the report %q of %q is read as %+v, %v at %d, want %+v", w.text, text, verdicts, code, place, w.result.Verdicts)
	}
}

// wantSites holds a Result against DOC.md's points 13 and 15: the forward pass, then each site alone.
func wantSites(t testing.TB, text string, c api.Config, r api.Result) {
	t.Helper()
	p := mustText(t, text)
	zeros, _ := env.Zero(p)
	first, posts, code := fwd.Run(p, c, zeros, nil)
	want := api.Result{Posts: posts}
	for site := range p.Sites {
		verdict, _, applications, code2 := refine.Site(p, c, first, site)
		if code != api.OK || code2 != api.OK {
			t.Fatalf("%q with %+v: %v, %v", text, c, code, code2)
		}
		want.Verdicts = append(want.Verdicts, verdict)
		want.Posts += applications
	}
	if tellResult(r) != tellResult(want) {
		t.Fatalf("P28.1: Analyze of %q with %+v = %+v, site by site %+v", text, c, r, want)
	}
}

// P28.1, P28.2: programs of each shape, at the corners.
func TestAnswersByWords(t *testing.T) {
	t.Parallel()
	seen := map[string]int{}
	for _, text := range append(texts(), "", "skip;") {
		for i, c := range corners() {
			w := wantWords(t, text, c, seen)
			for _, v := range w.result.Verdicts {
				seen[fmt.Sprint("kind ", v.Kind, " in ", v.Round)]++
			}
			if i%3 == 0 {
				wantSites(t, text, c, w.result)
			}
		}
	}
	wantSeen(t, seen, map[string]int{
		"taken": 500, "kind 0 in 0": 40, "kind 0 in 1": 80, "kind 0 in 2": 80, "kind 0 in 3": 3, "kind 1 in 0": 400, "kind 1 in 1": 20, "kind 1 in 2": 3,
		"kind 2 in 0": 150, "kind 2 in 1": 30, "kind 2 in 2": 3, "kind 2 in 3": 3,
	})
}

// P28.1, P28.2: texts and configurations by chance, right ones and wrong ones together.
func TestAnswersByChance(t *testing.T) {
	t.Parallel()
	m := newMaker(281)
	seen := map[string]int{}
	for range 1500 {
		wantWords(t, m.anyText(), m.anyConfig(), seen)
	}
	wantSeen(t, seen, map[string]int{
		"taken": 150, "refused by E20": 100, "refused by E30": 300, "refused by E22": 20, "refused by E41": 20, "refused by E42": 3,
		"refused by E190": 20, "refused by E191": 20, "refused by E192": 20, "refused by E193": 10, "refused by E194": 10, "refused by E195": 10, "refused by E196": 20, "refused by E197": 10, "refused by E198": 10,
	})
}

// P28.1, P28.2: programs by chance, with configurations that are taken.
func TestAnalysesByChance(t *testing.T) {
	t.Parallel()
	m := newMaker(282)
	seen := map[string]int{}
	for i := range 120 {
		text, c := m.program(1+i%4), m.config()
		w := wantWords(t, text, c, seen)
		wantSites(t, text, c, w.result)
	}
	wantSeen(t, seen, map[string]int{"taken": 120})
}

// Whatever text and configuration are handed in, the answer is the chapter's.
func FuzzAnswers(f *testing.F) {
	for _, text := range texts() {
		f.Add(text, 1, 1, 3, 1, 1, 1, int64(-3), int64(7), 20, 2)
	}
	f.Add("x := 1;", 0, 0, 0, 0, 0, 0, int64(0), int64(0), 0, 0)
	f.Fuzz(func(t *testing.T, text string, hist, unroll, most, delay, narrow, rounds int, low, high int64, fuel, tries int) {
		wantWords(t, text, api.Config{Hist: hist, Unroll: unroll, Cap: most, Delay: delay, Narrow: narrow, Rounds: rounds, Thresholds: []int64{low, high}, Fuel: fuel, Tries: tries}, map[string]int{})
	})
}
