package report

import (
	"runtime"
	"slices"
	"sync"
	"testing"
	"time"

	"winnow/api"
)

// full is a program with as many sites as there may be, a result of it, and its lines.
func full(t *testing.T) (api.Prog, api.Result, []string) {
	t.Helper()
	m := newMaker(277)
	list := inTurn(2, api.MaxSites)
	var verdicts []api.Verdict
	for range list {
		verdicts = append(verdicts, m.verdict())
	}
	verdicts[3] = definite(0, 5000, counted(4999)...)
	return withSites(t, list...), api.Result{Verdicts: verdicts}, expectedLines(list, verdicts)
}

// All goroutines have ended when a call answers, whatever it answers.
func TestNoGoroutineStays(t *testing.T) {
	p, r, lines := full(t)
	progs := append(bad(t), p, mustText(t, chapter), mustText(t, ""))
	before := runtime.NumGoroutine()
	for range 20 {
		for _, p := range progs {
			for _, verdicts := range [][]api.Verdict{nil, {{}}, {safe(1), definite(0, 1)}, {safe(1), definite(0, 0)}, {{Kind: 3}, {}}, r.Verdicts} {
				Lines(p, api.Result{Verdicts: verdicts})
			}
		}
		Parse(lines)
		Parse(append(lines, ""))
		Parse(nil)
	}
	// The last one may be on its way out still.
	for range 100 {
		if runtime.NumGoroutine() <= before {
			return
		}
		time.Sleep(time.Millisecond)
	}
	t.Errorf("there were %d goroutines, there are %d", before, runtime.NumGoroutine())
}

// P27.1: the lines stand in the order of the sites, however many goroutines run at once; answers are the same each time.
func TestLinesStandInOrder(t *testing.T) {
	defer runtime.GOMAXPROCS(runtime.GOMAXPROCS(0))
	p, r, want := full(t)
	for _, running := range []int{1, 2, 3, 16} {
		runtime.GOMAXPROCS(running)
		for range 200 {
			if lines, code := Lines(p, r); code != api.OK || !slices.Equal(lines, want) {
				t.Fatalf("P27.1: Lines = %.300q, %v", lines, code)
			}
		}
	}
}

// Calls at the same time have nothing to do with one another, though they are handed the same lists.
func TestCallsAtTheSameTime(t *testing.T) {
	p, r, want := full(t)
	small := mustText(t, chapter)
	var group sync.WaitGroup
	for i := range 8 {
		group.Go(func() {
			for range 100 {
				if lines, code := Lines(p, r); code != api.OK || !slices.Equal(lines, want) {
					t.Errorf("P27.1: Lines = %.300q, %v", lines, code)
				}
				if verdicts, code, _ := Parse(want); code != api.OK || !sameVerdicts(verdicts, r.Verdicts) {
					t.Errorf("P27.2: Parse = %.300v, %v", verdicts, code)
				}
				other := []api.Verdict{safe(i % 4), unknown(i / 4)}
				lines, code := Lines(small, api.Result{Verdicts: other})
				if code != api.OK || !slices.Equal(lines, expectedLines([]string{"division", "assert"}, other)) {
					t.Errorf("P27.1: Lines = %q, %v", lines, code)
				}
			}
		})
	}
	group.Wait()
}
