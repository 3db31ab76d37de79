package report

import (
	"math"
	"slices"
	"testing"

	"winnow/api"
	"winnow/check"
)

// fine are verdicts that may be, at the limits too.
func fine() []api.Verdict {
	list := []api.Verdict{
		{}, {Tape: []int64{}}, {Kind: api.Safe, Tape: []int64{}}, definite(0, 1), definite(3, 1), definite(0, 2, 0), definite(1, 2),
		definite(0, 4998, counted(4997)...), definite(0, 4999, counted(4998)...), definite(3, 5000), definite(0, 5000, counted(4998)...), definite(0, 5000, counted(4999)...),
	}
	for round := range 4 {
		list = append(list, safe(round), unknown(round), definite(round, 3, 1, -1))
	}
	return list
}

// odd are verdicts that may not be, each for one reason, and some for several.
func odd() []api.Verdict {
	list := []api.Verdict{
		{Kind: 3, Round: 4}, {Kind: 3, Steps: 1}, {Kind: 3, Steps: 2, Tape: []int64{1}}, {Kind: -1, Steps: 2, Tape: []int64{1}},
		{Kind: api.Safe, Round: 4, Steps: 1, Tape: []int64{1}}, definite(-1, 0, 1), definite(4, 5001), definite(0, 5000, counted(6000)...),
	}
	ends := []int{math.MinInt, math.MinInt32, -5000, -2, -1, math.MaxInt32, math.MaxInt32 + 1, 1 << 32, -1 << 32, math.MaxInt}
	for _, n := range append(ends, 3, 4, 256) {
		list = append(list, api.Verdict{Kind: api.VerdictKind(n)})
	}
	for _, n := range append(ends, 4, 5, 10, 256, 1<<32+1) {
		list = append(list, safe(n), unknown(n), definite(n, 1), definite(n, 3, 7))
	}
	for _, kind := range []api.VerdictKind{api.Unknown, api.Safe} {
		for _, n := range append(ends, 1, 2, 5000) {
			list = append(list, api.Verdict{Kind: kind, Steps: n}, api.Verdict{Kind: kind, Round: 3, Steps: n, Tape: []int64{}})
		}
		list = append(list, api.Verdict{Kind: kind, Tape: []int64{0}}, api.Verdict{Kind: kind, Tape: counted(5)}, api.Verdict{Kind: kind, Steps: 2, Tape: []int64{0}})
	}
	for _, n := range append(ends, 0, 5001, 5002, 10000, 1<<32+1) {
		list = append(list, definite(0, n), definite(2, n, 0))
	}
	for _, steps := range []int{1, 2, 3, 17, 4999, 5000} {
		for _, more := range []int{0, 1, 2, 5000} {
			list = append(list, definite(1, steps, counted(steps+more)...))
		}
	}
	return list
}

// TestVerdictsAreSorted holds both lists against the chapter's words.
func TestVerdictsAreSorted(t *testing.T) {
	for _, v := range fine() {
		if !may(v) {
			t.Errorf("%+v may not be", v)
		}
	}
	for _, v := range odd() {
		if may(v) {
			t.Errorf("%+v may be", v)
		}
	}
}

// P27.1: one verdict that may not be, or may, at the first, a middle and the last site.
func TestOneVerdict(t *testing.T) {
	for _, number := range []int{1, 2, 5, api.MaxSites} {
		list := inTurn(number, number)
		p := withSites(t, list...)
		verdicts := slices.Repeat([]api.Verdict{unknown(1)}, number)
		for _, place := range []int{0, number / 2, number - 1} {
			for _, v := range fine() {
				some := slices.Clone(verdicts)
				some[place] = v
				wantLines(t, p, some, expectedLines(list, some)...)
			}
			for _, v := range odd() {
				some := slices.Clone(verdicts)
				some[place] = v
				wantNoLines(t, p, some, api.ErrArg)
			}
		}
	}
}

// P27.1: tapes of Steps - 2, Steps - 1, Steps and Steps + 1 numbers.
func TestTapesAndSteps(t *testing.T) {
	p := withSites(t, "assert")
	for _, steps := range []int{0, 1, 2, 3, 10, 4999, 5000, 5001, 5002} {
		for _, number := range []int{steps - 2, steps - 1, steps, steps + 1} {
			verdicts := []api.Verdict{definite(1, steps, counted(number)...)}
			if 1 <= steps && steps <= 5000 && number < steps {
				wantLines(t, p, verdicts, expectedLines([]string{"assert"}, verdicts)...)
			} else {
				wantNoLines(t, p, verdicts, api.ErrArg)
			}
		}
	}
}

// P27.1: too few verdicts and too many, of programs with sites and without.
func TestNumbersOfVerdicts(t *testing.T) {
	for number := range api.MaxSites + 1 {
		p := withSites(t, inTurn(1, number)...)
		for _, have := range []int{0, 1, 2, number - 1, number, number + 1, number + 2, 2*number + 5, 1000} {
			for _, v := range []api.Verdict{{}, safe(2), definite(0, 1)} {
				verdicts := slices.Repeat([]api.Verdict{v}, max(have, 0))
				if have == number {
					wantLines(t, p, verdicts, expectedLines(inTurn(1, number), verdicts)...)
				} else if have >= 0 {
					wantNoLines(t, p, verdicts, api.ErrArg)
				}
			}
		}
	}
	for _, text := range []string{"", "var x;", "skip;", "var x; while x < 3 { x := x + 1; }"} {
		p := mustText(t, text)
		wantLines(t, p, nil)
		wantLines(t, p, []api.Verdict{})
		wantLines(t, p, make([]api.Verdict, 0, 3))
		for _, v := range append(odd(), fine()...) {
			wantNoLines(t, p, []api.Verdict{v}, api.ErrArg)
		}
	}
	wantLines(t, api.Prog{}, nil)
	wantNoLines(t, api.Prog{}, []api.Verdict{{}}, api.ErrArg)
	for _, none := range [][]api.Verdict{nil, {}, make([]api.Verdict, 0, 3)} {
		wantNoLines(t, mustText(t, chapter), none, api.ErrArg)
		wantNoLines(t, withSites(t, "load"), none, api.ErrArg)
	}
}

// bad are Progs that aren't good: the chapter's, spoilt, and some that have little at all.
func bad(t *testing.T) []api.Prog {
	t.Helper()
	spoil := []func(p *api.Prog){
		func(p *api.Prog) { *p = api.Prog{Nodes: p.Nodes} },
		func(p *api.Prog) { p.Nodes = nil },
		func(p *api.Prog) { p.Nodes = p.Nodes[:len(p.Nodes)-1] },
		func(p *api.Prog) { p.Nodes = make([]api.Node, 1000) },
		func(p *api.Prog) { p.Nodes[4].Kind = 99 },
		func(p *api.Prog) { p.Nodes[3].Depth = math.MinInt },
		func(p *api.Prog) { p.Nodes[3].Op = api.OpAdd },
		func(p *api.Prog) { p.Nodes[6].Op = api.OpDiv },
		func(p *api.Prog) { p.Scalars[0] = "z" },
		func(p *api.Prog) { p.Arrays = append(p.Arrays, api.Array{Name: "b", Len: 1}) },
		func(p *api.Prog) { p.Symbols = nil },
		func(p *api.Prog) { p.Sites = nil },
		func(p *api.Prog) { p.Sites = p.Sites[1:] },
		func(p *api.Prog) { p.Sites = append(p.Sites, 1) },
		func(p *api.Prog) { p.Sites[0], p.Sites[1] = p.Sites[1], p.Sites[0] },
		func(p *api.Prog) { p.Sites[1] = len(p.Nodes) },
		func(p *api.Prog) { p.Sites[0] = -1 },
		func(p *api.Prog) { p.Sites[0]++ },
		func(p *api.Prog) { p.Sites = slices.Repeat([]int{math.MaxInt}, 1000) },
		func(p *api.Prog) { p.SiteOf = nil },
		func(p *api.Prog) { p.SiteOf[0] = 0 },
	}
	list := []api.Prog{{Scalars: []string{"x"}}, {Sites: []int{0}}, {Sites: []int{}, SiteOf: []int{-1}}, {Nodes: make([]api.Node, 1)}}
	for i, change := range spoil {
		p := mustText(t, chapter)
		change(&p)
		if check.Good(p) {
			t.Fatalf("the Prog %d is still good", i)
		}
		list = append(list, p)
	}
	return list
}

// P27.1: a Prog that isn't good is refused, ahead of all else.
func TestProgsThatArentGood(t *testing.T) {
	for _, p := range bad(t) {
		for _, number := range []int{0, 1, 2, len(p.Sites), len(p.Sites) + 1} {
			wantNoLines(t, p, slices.Repeat([]api.Verdict{safe(1)}, number), api.ErrPut)
			for _, v := range odd() {
				if len(v.Tape) < 10 && number < 10 {
					wantNoLines(t, p, slices.Repeat([]api.Verdict{v}, number), api.ErrPut)
				}
			}
		}
		wantNoLines(t, p, nil, api.ErrPut)
	}
}
