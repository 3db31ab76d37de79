package num

import (
	"math/rand"
	"slices"
	"sync"
	"testing"

	"winnow/api"
)

// next is a Num that goes beyond a's ends or its class, mostly by a little.
func next(m *rand.Rand, a api.Num, thresholds []int64) api.Num {
	form := Norm(a)
	by := int64(1 + m.Intn(3))
	if m.Intn(3) > 0 && form.C.M > 0 && form.C.M < maxInt {
		by = int64(form.C.M)
	}
	switch m.Intn(8) {
	case 0:
		return numByChance(m)
	case 1:
		if len(thresholds) > 0 {
			return one(thresholds[m.Intn(len(thresholds))])
		}
	case 2, 3, 4:
		if form.I.Lo >= minInt+by {
			return one(form.I.Lo - by)
		}
	}
	if form.I.Hi <= maxInt-by {
		return one(form.I.Hi + by)
	}
	return one(form.I.Hi)
}

// P13.3: a row of widenings changes at most 2 times (the number of thresholds and 3) times.
func TestRowsOfWideningsEnd(t *testing.T) {
	m := rand.New(rand.NewSource(135))
	for range 4000 {
		thresholds := thresholdsByChance(m)
		for i := range thresholds {
			if m.Intn(2) == 0 {
				thresholds[i] = int64(m.Intn(200) - 100)
			}
		}
		a := numByChance(m)
		if m.Intn(2) == 0 {
			a = no()
		}
		changes := 0
		for range 200 {
			b := Widen(a, next(m, a, thresholds), thresholds)
			if !Leq(a, b) {
				t.Fatalf("P13.3: a widening of %v is %v", a, b)
			}
			if b != Norm(a) {
				changes++
			}
			a = b
		}
		if changes > 2*(len(thresholds)+3) {
			t.Fatalf("P13.3: %d changes with the thresholds %v", changes, thresholds)
		}
	}
}

const mark = -987654321

// P13.6: thresholds stay, with the room behind them, and the room has no say.
func TestWhatIsHandedInStays(t *testing.T) {
	m := rand.New(rand.NewSource(136))
	for range 20000 {
		list := thresholdsByChance(m)
		long := append(slices.Clone(list), mark, 1, mark)
		a, b := numByChance(m), numByChance(m)
		if got, want := Widen(a, b, long[:len(list)]), Widen(a, b, list); got != want {
			t.Fatalf("P13.6: Widen(%v, %v, %v) hangs on the room behind: %v, %v", a, b, list, got, want)
		}
		if !slices.Equal(long, append(slices.Clone(list), mark, 1, mark)) {
			t.Fatalf("P13.6: Widen(%v, %v) has changed the thresholds %v into %v", a, b, list, long)
		}
	}
}

// Calls at the same time have nothing to do with one another.
func TestCallsAtTheSameTime(t *testing.T) {
	thresholds := []int64{9, -5, 100}
	var group sync.WaitGroup
	for range 8 {
		group.Go(func() {
			for range 200 {
				if got := Widen(nu(0, 2, 2, 0), nu(0, 4, 2, 0), thresholds); got != nu(0, 8, 2, 0) {
					t.Errorf("P13.3: Widen = %v", got)
				}
				if got, code := Apply(api.OpRem, nu(0, 100, 2, 1), one(8)); got != nu(1, 7, 2, 1) || code != api.OK {
					t.Errorf("P13.5: Apply = %v, %d", got, code)
				}
			}
		})
	}
	group.Wait()
}
