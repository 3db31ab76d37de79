package config

import (
	"reflect"
	"slices"
	"sync"
	"testing"

	"winnow/api"
)

const mark = -987654321

// roomy is a list with marked room behind it.
func roomy[T any](list []T, marked T) []T {
	long := append(slices.Clone(list), marked, marked, marked)
	return long[:len(list)]
}

// whole is a list with the room behind it.
func whole[T any](list []T) []T { return slices.Clone(list[:cap(list)]) }

func roomyProg(p api.Prog) api.Prog {
	return api.Prog{
		Nodes: roomy(p.Nodes, api.Node{Depth: mark}), Scalars: roomy(p.Scalars, "mark"), Arrays: roomy(p.Arrays, api.Array{Len: mark}),
		Symbols: roomy(p.Symbols, mark), Sites: roomy(p.Sites, mark), SiteOf: roomy(p.SiteOf, mark),
	}
}

func wholeProg(p api.Prog) api.Prog {
	return api.Prog{
		Nodes: whole(p.Nodes), Scalars: whole(p.Scalars), Arrays: whole(p.Arrays),
		Symbols: whole(p.Symbols), Sites: whole(p.Sites), SiteOf: whole(p.SiteOf),
	}
}

func roomyConfig(c api.Config) api.Config {
	c.Thresholds = roomy(c.Thresholds, mark)
	return c
}

func wholeConfig(c api.Config) api.Config {
	c.Thresholds = whole(c.Thresholds)
	return c
}

// configurations are right ones and wrong ones.
func configurations() []api.Config {
	list := append(right(), api.Config{})
	for _, w := range wrongs() {
		c := middle()
		w.spoil(&c)
		list = append(list, c)
	}
	for _, thresholds := range append(wrongThresholds(), nil, long(), long(-5, 0, 3)) {
		c := middle()
		c.Thresholds = thresholds
		list = append(list, c)
	}
	return list
}

// P19.4: what is handed in stays, with the room behind it, whatever the answer; and a later answer is the same.
func TestWhatIsHandedInStays(t *testing.T) {
	bad := mustText(t, everything)
	bad.SiteOf[0] = 3
	progs := []api.Prog{{}, mustText(t, "skip;"), mustText(t, everything), bad, {Scalars: []string{"x"}}}
	for _, prog := range progs {
		for _, config := range configurations() {
			p, c := roomyProg(prog), roomyConfig(config)
			keptProg, keptConfig := wholeProg(p), wholeConfig(c)
			first, firstCode := Bound(p, c)
			err := Check(c)
			later, laterCode := Bound(p, c)
			if !reflect.DeepEqual(keptProg, wholeProg(p)) || !reflect.DeepEqual(keptConfig, wholeConfig(c)) {
				t.Fatalf("P19.4: what was handed in has changed: %v, %+v", p, c)
			}
			if first != later || firstCode != laterCode || !reflect.DeepEqual(err, Check(c)) {
				t.Fatalf("P19.4: the answers for %v, %+v are others later", p, c)
			}
		}
	}
}

// P19.4: who writes over a Fault changes no other one, earlier or later.
func TestFaultsAreNew(t *testing.T) {
	refused := 0
	for _, c := range configurations() {
		before, err, behind := Check(c), Check(c), Check(c)
		if err == nil {
			continue
		}
		refused++
		kept := *behind.(*api.Fault)
		fault := err.(*api.Fault)
		if before == err || err == behind || before == behind {
			t.Fatalf("P19.4: two Faults of %+v are one", c)
		}
		*fault = api.Fault{Code: 99, At: mark, Of: api.ErrReject}
		for _, other := range []error{before, behind, Check(c)} {
			if *other.(*api.Fault) != kept {
				t.Fatalf("P19.4: who writes over a Fault has changed another one: %+v, want %+v", other, kept)
			}
		}
		if _, code := Bound(api.Prog{}, c); code != kept.Code {
			t.Fatalf("P19.4: who writes over a Fault has changed what Bound answers: %v, want %v", code, kept.Code)
		}
	}
	if refused < 30 {
		t.Errorf("only %d were refused", refused)
	}
}

// P19.4: a Fault keeps nothing of what was handed in.
func TestFaultsStay(t *testing.T) {
	thresholds := long(3, 2, 1)
	err := Check(api.Config{Cap: 1, Thresholds: thresholds})
	copy(thresholds, long(1, 2, 3))
	if fault := err.(*api.Fault); *fault != (api.Fault{Code: api.ErrThresh, At: -1, Of: api.ErrConfig}) {
		t.Errorf("P19.4: a Fault has changed: %+v", *fault)
	}
	wantOK(t, api.Config{Cap: 1, Thresholds: thresholds})
}

// Calls at the same time have nothing to do with one another.
func TestCallsAtTheSameTime(t *testing.T) {
	p, c := mustText(t, everything), middle()
	wanted, _ := Bound(p, c)
	var group sync.WaitGroup
	for range 8 {
		group.Go(func() {
			for range 100 {
				wantOK(t, c)
				wantRefused(t, api.Config{}, api.ErrCap)
				if got, code := Bound(p, c); got != wanted || code != api.OK {
					t.Errorf("P19.2: Bound = %d, %v, want %d", got, code, wanted)
				}
			}
		})
	}
	group.Wait()
}
