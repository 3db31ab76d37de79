package ival

import (
	"math/rand"
	"slices"
	"sync"
	"testing"
)

const mark = -987654321

// P11.6: thresholds stay, with the room behind them, and the room has no say.
func TestWhatIsHandedInStays(t *testing.T) {
	m := rand.New(rand.NewSource(116))
	for range 20000 {
		list := thresholdsByChance(m)
		long := append(slices.Clone(list), mark, 1, mark)
		a, b := interval(m), interval(m)
		if got, want := Widen(a, b, long[:len(list)]), Widen(a, b, list); got != want {
			t.Fatalf("P11.6: Widen(%v, %v, %v) hangs on the room behind: %v, %v", a, b, list, got, want)
		}
		if !slices.Equal(long, append(slices.Clone(list), mark, 1, mark)) {
			t.Fatalf("P11.6: Widen(%v, %v) has changed the thresholds %v into %v", a, b, list, long)
		}
	}
}

// Calls at the same time have nothing to do with one another.
func TestCallsAtTheSameTime(t *testing.T) {
	thresholds := []int64{100, -5, -7, 300}
	var group sync.WaitGroup
	for range 8 {
		group.Go(func() {
			for range 200 {
				if got := Widen(iv(0, 3), iv(-5, 200), thresholds); got != iv(-5, 300) {
					t.Errorf("P11.2: Widen = %v", got)
				}
				if got, exact := Div(iv(-7, 7), iv(-2, 3)); got != iv(-7, 7) || !exact {
					t.Errorf("P11.3: Div = %v, %v", got, exact)
				}
			}
		})
	}
	group.Wait()
}
