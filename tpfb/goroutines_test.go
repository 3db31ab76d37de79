package tpfb

import (
	"runtime"
	"strconv"
	"strings"
	"sync"
	"testing"
	"time"

	"winnow/api"
)

// unlike is a program with as many sites as there may be, no two with the same verdict; the one that takes the longest (three rounds) stands at a place.
func unlike(place int) string {
	var text strings.Builder
	text.WriteString("var x; var y; var w; var v; var u; var s; var t; input x; input w; input t; y := x; v := w; u := w; s := t; ")
	for site := range api.MaxSites {
		if site == place {
			text.WriteString("if x == 1 { if y + v == 5 { if u + s == 9 { assert false; } } } ")
		} else {
			text.WriteString("assert x != " + strconv.Itoa(20+site) + "; ")
		}
	}
	return text.String()
}

// unlikeVerdicts are those of unlike: each other site faults in round 1, as soon as x is its own number. Ahead of the first site there are seven steps; who comes by the place makes one step there.
func unlikeVerdicts(place int) []api.Verdict {
	var verdicts []api.Verdict
	for site := range api.MaxSites {
		verdicts = append(verdicts, definite(1, 8+site, int64(20+site), 0, 0))
	}
	verdicts[place] = definite(3, 11+place, 1, 4, 5)
	return verdicts
}

// P28.1, DOC.md's example 10: the verdicts stand in the order of the sites, whichever of the goroutines ends first: asked many times, with few and with many of them running at once.
func TestVerdictsStandInOrder(t *testing.T) {
	defer runtime.GOMAXPROCS(runtime.GOMAXPROCS(0))
	c := rounded(3, 1, 60)
	for _, place := range []int{0, 1, api.MaxSites / 2, api.MaxSites - 1} {
		text, want := unlike(place), unlikeVerdicts(place)
		told, err := Report(text, c)
		for _, running := range []int{1, 3, 16} {
			runtime.GOMAXPROCS(running)
			for range 3 {
				wantVerdicts(t, text, c, want...)
				wantReport(t, text, c, told)
			}
		}
		if err != nil || strings.Count(told, "\n") != api.MaxSites {
			t.Errorf("P28.2: the report of %q is %q, %v", text, told, err)
		}
	}
}

// DOC.md's example 10: two runs of one analysis tell the same.
func TestAnswersAreTheSameEachTime(t *testing.T) {
	t.Parallel()
	for _, text := range append(texts(), unlike(0), unlike(api.MaxSites-1)) {
		for i, c := range corners() {
			if i%4 > 0 {
				continue
			}
			want := tellResult(analyzed(t, text, c))
			for range 3 {
				if r := analyzed(t, text, c); tellResult(r) != want {
					t.Fatalf("P28.1: Analyze of %q with %+v = %s, once more %+v", text, c, want, r)
				}
			}
		}
	}
}

// All goroutines have ended when a call answers, whatever it answers.
func TestNoGoroutineStays(t *testing.T) {
	list := []string{"", short, loop, unlike(0), unlike(api.MaxSites - 1), "x := 1;", "+", "1x", strings.Repeat("skip;", 301), strings.Repeat(" ", api.MaxSource+1), "var x; x := 1 | 2;"}
	configs := []api.Config{plain(), rounded(3, 4, 60), rounded(0, 0, 0), {}, {Cap: 7}}
	before := runtime.NumGoroutine()
	for range 8 {
		for _, text := range list {
			for _, c := range configs {
				Analyze(text, c)
				Report(text, c)
			}
		}
	}
	// The last ones may be on their way out still.
	for range 100 {
		if runtime.NumGoroutine() <= before {
			return
		}
		time.Sleep(time.Millisecond)
	}
	t.Errorf("there were %d goroutines, there are %d", before, runtime.NumGoroutine())
}

// Calls at the same time have nothing to do with one another, though they are handed the same thresholds.
func TestCallsAtTheSameTime(t *testing.T) {
	c := rounded(3, 1, 60)
	c.Thresholds = []int64{-1, 7}
	list := []string{unlike(2), loop, everything, "x := 1;"}
	var want []words
	for _, text := range list {
		want = append(want, byWords(t, text, c))
	}
	var group sync.WaitGroup
	for turn := range 8 {
		group.Go(func() {
			for range 3 {
				i := turn % len(list)
				r, err := Analyze(list[i], c)
				s, err2 := Report(list[i], c)
				refused := want[i].fault != nil
				if tellResult(r) != tellResult(want[i].result) || s != want[i].text || (err != nil) != refused || (err2 != nil) != refused {
					t.Errorf("P28.1: %q is told %+v, %v, %q, %v, want %+v", list[i], r, err, s, err2, want[i])
				}
			}
		})
	}
	group.Wait()
}
