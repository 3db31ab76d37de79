package cong

import (
	"sync"
	"testing"
	"time"

	"winnow/api"
)

// window is how far from 0 the numbers of small classes are looked at: far enough for two of any class that two of them have in common.
const window = 220

// smalls are all classes of small M, in two forms, and numbers alone with a sign.
func smalls() []api.Cong {
	var out []api.Cong
	for m := uint64(1); m <= 10; m++ {
		for r := range 2 * m {
			out = append(out, cl(m, r))
		}
	}
	for v := int64(-12); v <= 12; v++ {
		out = append(out, Const(v))
	}
	return out
}

// holds tells of each number of the window whether it is in c, told by counting.
func holds(c api.Cong) []bool {
	out := make([]bool, 2*window+1)
	if c.M == 0 {
		out[int64(c.R)+window] = true
		return out
	}
	at := int64(c.R)
	for at-int64(c.M) >= -window {
		at -= int64(c.M)
	}
	for ; at <= window; at += int64(c.M) {
		out[at+window] = true
	}
	return out
}

// P12.1 to P12.3: all small classes against the sets of their numbers.
func TestSetsOfSmallClasses(t *testing.T) {
	list := smalls()
	sets := map[api.Cong][]bool{}
	for _, c := range list {
		sets[c] = holds(c)
	}
	for _, c := range list {
		for i, is := range sets[c] {
			if got := Has(c, int64(i)-window); got != is {
				t.Fatalf("P12.1: Has(%v, %d) = %v", c, i-window, got)
			}
		}
		for _, d := range list {
			holdSmall(t, c, d, sets[c], sets[d])
		}
	}
}

func holdSmall(t *testing.T, c, d api.Cong, cs, ds []bool) {
	t.Helper()
	below, common := true, 0
	for i := range cs {
		below = below && (!cs[i] || ds[i])
		if cs[i] && ds[i] {
			common++
		}
	}
	if got := Leq(c, d); got != below {
		t.Fatalf("P12.1: Leq(%v, %v) = %v", c, d, got)
	}
	join := Join(c, d)
	meet, ok := Meet(c, d)
	if ok != (common > 0) || !ok && meet != cl(0, 0) || ok && (meet.M == 0) != (common == 1) || !written(meet) || !written(join) {
		t.Fatalf("P12.2, P12.3: of %v and %v: Join %v, Meet %v, %v; %d numbers in common", c, d, join, meet, ok, common)
	}
	for i := range cs {
		v := int64(i) - window
		if ok && Has(meet, v) != (cs[i] && ds[i]) {
			t.Fatalf("P12.3: Meet(%v, %v) = %v: %d", c, d, meet, v)
		}
		if (cs[i] || ds[i]) && !Has(join, v) {
			t.Fatalf("P12.2: Join(%v, %v) = %v hasn't %d", c, d, join, v)
		}
	}
}

// P12.6: Join is below every small class that is above both.
func TestJoinIsTheLeastOfSmallClasses(t *testing.T) {
	list := smalls()
	for i, c := range list {
		for j := i % 3; j < len(list); j += 3 {
			d := list[j]
			join := Join(c, d)
			for _, e := range list {
				if Leq(c, e) && Leq(d, e) != Leq(join, e) {
					t.Fatalf("P12.6: Join(%v, %v) = %v and %v", c, d, join, e)
				}
			}
		}
	}
}

// P12.4: small classes, by trying one number after the other.
func TestNextOfSmallClasses(t *testing.T) {
	for _, c := range smalls() {
		set := holds(c)
		for v := int64(-30); v <= 30; v++ {
			up, down := v, v
			for up < window && !set[up+window] {
				up++
			}
			for down > -window && !set[down+window] {
				down--
			}
			if got, ok := Up(c, v); ok != set[up+window] || ok && got != up || !ok && got != 0 {
				t.Fatalf("P12.4: Up(%v, %d) = %d, %v", c, v, got, ok)
			}
			if got, ok := Down(c, v); ok != set[down+window] || ok && got != down || !ok && got != 0 {
				t.Fatalf("P12.4: Down(%v, %d) = %d, %v", c, v, got, ok)
			}
		}
	}
}

// near are numbers of c at both ends of the numbers and around 0.
func near(c api.Cong) []int64 {
	var out []int64
	for _, from := range []int64{minInt, minInt / 2, -4, 0, 3, maxInt / 2, maxInt - 30} {
		for range 3 {
			v, ok := Up(c, from)
			if !ok {
				break
			}
			out = append(out, v)
			if v == maxInt {
				break
			}
			from = v + 1
		}
	}
	return out
}

// P12.6: all results are in the answers.
func TestResultsOfSmallClasses(t *testing.T) {
	var list []api.Cong
	for m := uint64(1); m <= 8; m++ {
		for r := range m {
			list = append(list, cl(m, r))
		}
	}
	for _, v := range []int64{minInt, minInt + 1, -6, -3, -2, -1, 0, 1, 2, 4, 6, 12, maxInt} {
		list = append(list, Const(v))
	}
	list = append(list, cl(half, 0), cl(half, 3), cl(last, 0), cl(last, half-1), cl(3<<62, 1<<62), cl(1<<32, 5))
	for _, c := range list {
		for _, d := range list {
			for _, x := range near(c) {
				for _, y := range near(d) {
					holdResults(t, c, d, x, y)
				}
			}
		}
	}
}

// soon fails if the work goes on for long: what needs one step for each number of a class would never end.
func soon(t *testing.T, what string, work func()) {
	t.Helper()
	done := make(chan struct{})
	go func() {
		defer close(done)
		work()
	}()
	select {
	case <-done:
	case <-time.After(time.Minute):
		t.Fatalf("P12.7: %s doesn't end soon", what)
	}
}

// P12.7: the greatest Ms, and those whose gcd takes the most steps, thousands of times.
func TestEndsSoon(t *testing.T) {
	// Two numbers of Fibonacci's row beside one another.
	const fibonacci, before = 12200160415121876738, 7540113804746346429
	list := []api.Cong{cl(last, last-1), cl(last, 0), cl(last-1, last-2), cl(last-2, 5), cl(half, half-1), cl(half+1, half), cl(fibonacci, fibonacci-1), cl(before, before-1), cl(fibonacci, 1), cl(before, 7), cl(last-58, 1), Const(minInt), Const(maxInt), Const(-1)}
	soon(t, "one of the calls", func() {
		for range 200 {
			for _, c := range list {
				for _, d := range list {
					Join(c, d)
					Leq(c, d)
					Meet(c, d)
					for _, o := range operations() {
						o.call(c, d, true)
						o.call(c, d, false)
					}
				}
				Up(c, minInt)
				Down(c, maxInt)
			}
		}
	})
}

// Calls at the same time have nothing to do with one another.
func TestCallsAtTheSameTime(t *testing.T) {
	var group sync.WaitGroup
	for range 8 {
		group.Go(func() {
			for range 200 {
				if got, ok := Meet(cl(4, 1), cl(6, 3)); got != cl(12, 9) || !ok {
					t.Errorf("P12.3: Meet = %v, %v", got, ok)
				}
				if got := Mul(cl(6, 2), cl(4, 3), true); got != cl(2, 0) {
					t.Errorf("P12.5: Mul = %v", got)
				}
			}
		})
	}
	group.Wait()
}
