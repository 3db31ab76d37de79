package refine

import (
	"runtime"
	"strconv"
	"strings"
	"sync"
	"testing"
	"time"

	"winnow/api"
)

// unlike is a program with as many sites as there may be, no two with the same verdict; the one that takes the longest (three rounds) stands at a place.
func unlike(place int) string {
	var text strings.Builder
	text.WriteString("var x; var y; var w; var v; var u; var s; var t; input x; input w; input t; y := x; v := w; u := w; s := t; ")
	for site := range api.MaxSites {
		if site == place {
			text.WriteString("if x == 1 { if y + v == 5 { if u + s == 9 { assert false; } } } ")
		} else {
			text.WriteString("assert x != " + strconv.Itoa(20+site) + "; ")
		}
	}
	return text.String()
}

// unlikeVerdicts are those of unlike: each other site faults in round 1, as soon as x is its own number. Ahead of the first site there are seven steps; who comes by the place makes one step there.
func unlikeVerdicts(place int) []api.Verdict {
	var verdicts []api.Verdict
	for site := range api.MaxSites {
		verdicts = append(verdicts, definite(1, 8+site, int64(20+site), 0, 0))
	}
	verdicts[place] = definite(3, 11+place, 1, 4, 5)
	return verdicts
}

// P25.2: the verdicts stand in the order of the sites, whichever of the goroutines ends first: asked many times, with few and with many of them running at once.
func TestVerdictsStandInOrder(t *testing.T) {
	defer runtime.GOMAXPROCS(runtime.GOMAXPROCS(0))
	c := rounded(3, 1, 60)
	for _, place := range []int{0, 1, api.MaxSites / 2, api.MaxSites - 1} {
		text := unlike(place)
		want := unlikeVerdicts(place)
		for _, running := range []int{1, 2, 3, 16} {
			runtime.GOMAXPROCS(running)
			for range 4 {
				wantAll(t, text, c, want...)
			}
		}
		wantWhole(t, mustText(t, text), c)
	}
}

// P25.2, DOC.md's example 10: all that is answered is the same each time: programs of each shape, asked many times.
func TestAnswersAreTheSameEachTime(t *testing.T) {
	t.Parallel()
	for _, text := range append(texts(), unlike(0), unlike(api.MaxSites-1)) {
		p := mustText(t, text)
		for _, c := range corners()[:8] {
			first, code := All(p, c)
			want := tellResult(first)
			for range 5 {
				if r, code2 := All(p, c); tellResult(r) != want || code2 != code || code != api.OK {
					t.Fatalf("P25.2: All of %q with %+v = %+v, %v, once more %+v, %v", text, c, first, code, r, code2)
				}
			}
		}
	}
}

// All goroutines have ended when All answers, whatever it answers.
func TestNoGoroutineStays(t *testing.T) {
	progs := []api.Prog{mustText(t, ""), mustText(t, short), mustText(t, loop), mustText(t, unlike(0)), mustText(t, unlike(api.MaxSites-1)), bad(t)[1]}
	configs := []api.Config{plain(), rounded(3, 4, 60), rounded(0, 0, 0), {}}
	before := runtime.NumGoroutine()
	for range 8 {
		for _, p := range progs {
			for _, c := range configs {
				All(p, c)
			}
		}
	}
	// The last ones may be on their way out still.
	for range 100 {
		if runtime.NumGoroutine() <= before {
			return
		}
		time.Sleep(time.Millisecond)
	}
	t.Errorf("there were %d goroutines, there are %d", before, runtime.NumGoroutine())
}

// Calls at the same time have nothing to do with one another, though they are handed the same lists.
func TestCallsAtTheSameTime(t *testing.T) {
	p, c := mustText(t, unlike(2)), rounded(3, 1, 60)
	c.Thresholds = []int64{-1, 7}
	first := firstOf(t, p, c)
	want, code := All(p, c)
	if code != api.OK {
		t.Fatalf("P25.2: All = %v", code)
	}
	w := byWords(t, p, c, first, 2)
	var group sync.WaitGroup
	for range 4 {
		group.Go(func() {
			for range 3 {
				if r, code := All(p, c); code != api.OK || tellResult(r) != tellResult(want) {
					t.Errorf("P25.2: All = %+v, %v, want %+v", r, code, want)
				}
			}
		})
		group.Go(func() {
			for range 8 {
				wantSite(t, p, c, first, 2, w.verdict, w.applications, w.tables...)
			}
		})
	}
	group.Wait()
}
