package refine

import (
	"math"
	"testing"

	"winnow/api"
	"winnow/check"
)

// wrong is a configuration that is refused, and its number.
type wrong struct {
	code api.Errno
	c    api.Config
}

// wrongs have each field alone that is wrong, below and above; and some several ones.
func wrongs() []wrong {
	list := []wrong{
		{192, api.Config{}},
		{190, api.Config{Hist: 4, Unroll: -1}},
		{191, api.Config{Unroll: 4, Cap: 7, Tries: -1}},
		{192, api.Config{Cap: 7, Delay: -1}},
		{195, api.Config{Cap: 1, Rounds: 4, Tries: 5}},
		{196, api.Config{Cap: 1, Thresholds: []int64{1, 1}}},
		{196, api.Config{Cap: 1, Thresholds: []int64{2, 1}, Fuel: -1}},
		{196, api.Config{Cap: 1, Thresholds: []int64{1, 2, 3, 4, 5, 6, 7}}},
		{197, api.Config{Cap: 1, Fuel: 5001, Tries: 5}},
	}
	for _, f := range []struct {
		code        api.Errno
		least, most int
		of          func(c *api.Config) *int
	}{
		{190, 0, 3, func(c *api.Config) *int { return &c.Hist }},
		{191, 0, 3, func(c *api.Config) *int { return &c.Unroll }},
		{192, 1, 6, func(c *api.Config) *int { return &c.Cap }},
		{193, 0, 6, func(c *api.Config) *int { return &c.Delay }},
		{194, 0, 3, func(c *api.Config) *int { return &c.Narrow }},
		{195, 0, 3, func(c *api.Config) *int { return &c.Rounds }},
		{197, 0, 5000, func(c *api.Config) *int { return &c.Fuel }},
		{198, 0, 4, func(c *api.Config) *int { return &c.Tries }},
	} {
		for _, v := range []int{f.least - 1, f.most + 1, math.MinInt, math.MaxInt} {
			c := api.Config{Cap: 3, Rounds: 1, Thresholds: []int64{1, 5}}
			*f.of(&c) = v
			list = append(list, wrong{f.code, c})
		}
	}
	return list
}

// bad are Progs that aren't good; of all their scalars and arrays the lists are often those of everything.
func bad(t *testing.T) []api.Prog {
	spoil := []func(p *api.Prog){
		func(p *api.Prog) { *p = api.Prog{Nodes: p.Nodes} },
		func(p *api.Prog) { p.Nodes = nil },
		func(p *api.Prog) { p.Nodes = p.Nodes[:len(p.Nodes)-1] },
		func(p *api.Prog) { p.Nodes = make([]api.Node, 1000) },
		func(p *api.Prog) { p.Scalars[0] = "z" },
		func(p *api.Prog) { p.Scalars = nil },
		func(p *api.Prog) { p.Arrays[0].Len = 3 },
		func(p *api.Prog) { p.Arrays = append(p.Arrays, api.Array{Name: "b", Len: 1}) },
		func(p *api.Prog) { p.Symbols = nil },
		func(p *api.Prog) { p.Sites = p.Sites[1:] },
		func(p *api.Prog) { p.Sites = append(p.Sites, 1) },
		func(p *api.Prog) { p.Sites = make([]int, 1000) },
		func(p *api.Prog) { p.SiteOf = nil },
		func(p *api.Prog) { p.Nodes[4].Kind = 99 },
		func(p *api.Prog) { p.Nodes[3].Depth = math.MinInt },
		func(p *api.Prog) { p.Nodes[3].Name = "q" },
	}
	list := []api.Prog{{Scalars: []string{"x"}}, {Sites: []int{0}}, {Nodes: make([]api.Node, 1)}}
	for i, change := range spoil {
		p := mustText(t, everything)
		change(&p)
		if check.Good(p) {
			t.Fatalf("the Prog %d is still good", i)
		}
		list = append(list, p)
	}
	return list
}

// unfit are Envs that don't fit a program of two scalars and one array; one of another shape doesn't fit for all that it is dead by its normal form.
func unfit() []api.Env {
	one, none := is(0), api.Num{Bot: true}
	return []api.Env{
		{}, vars(one), vars(one, one), both(nil, list(one)), both(list(one), list(one)), both(list(one, one, one), list(one)),
		both(list(one, one), list(one, one)), both(list(one), list(one, one)), vars(none, none), both(list(none), list(none)),
	}
}

// misfits are tables that don't fit a program of two scalars and one array whose part has so many vertices: none, too few Envs, too many, and one of another shape at the first, a middle and the last place.
func misfits(number int, e api.Env) []api.Table {
	tables := []api.Table{nil, {}, make(api.Table, 0, number), filled(number-1, e), filled(number+1, e), filled(2*number, e), filled(number, e)[:number-1]}
	for _, place := range []int{0, number / 2, number - 1} {
		for _, other := range unfit() {
			tables = append(tables, except(filled(number, e), place, other))
		}
	}
	return tables
}

// noSites are numbers that are no site of a program that has so many.
func noSites(number int) []int {
	return []int{-1, number, math.MinInt, math.MaxInt, number + 1, -number - 1, api.MaxSites, 1 << 32, -1 << 32}
}

// wantNoSite holds that Site refuses.
func wantNoSite(t *testing.T, p api.Prog, c api.Config, first api.Table, site int, want api.Errno) {
	t.Helper()
	v, tables, number, code := Site(p, c, first, site)
	if code != want || tellVerdict(v) != tellVerdict(api.Verdict{}) || v.Tape != nil || tables != nil || number != 0 {
		t.Errorf("P25.1: Site %d with %+v by %d Envs %v = %+v, %v, %d, %v, want %v", site, c, len(first), first, v, tables, number, code, want)
	}
}

// wantNoAll holds that All refuses.
func wantNoAll(t *testing.T, p api.Prog, c api.Config, want api.Errno) {
	t.Helper()
	if r, code := All(p, c); code != want || r.Verdicts != nil || r.Posts != 0 {
		t.Errorf("P25.2: All with %+v = %+v, %v, want %v", c, r, code, want)
	}
}

// wantNothing holds that both refuse.
func wantNothing(t *testing.T, p api.Prog, c api.Config, first api.Table, site int, want api.Errno) {
	t.Helper()
	wantNoSite(t, p, c, first, site, want)
	wantNoAll(t, p, c, want)
}

// P25.1, P25.2: each refusal alone: a Prog that isn't good.
func TestProgsThatArentGood(t *testing.T) {
	whole := both(list(is(0), is(0)), list(is(0)))
	number := len(mustSplit(t, mustText(t, everything), plain()).Verts)
	for _, p := range bad(t) {
		for _, first := range []api.Table{filled(number, whole), nil, {}, {lost()}, {{}}, filled(number, lost())} {
			for _, site := range []int{0, 1, -1, 99} {
				wantNothing(t, p, plain(), first, site, api.ErrPut)
				wantNothing(t, p, rounded(3, 4, 60), first, site, api.ErrPut)
			}
		}
	}
}

// P25.1, P25.2: each refusal alone: each of the configuration's.
func TestConfigurationsThatAreWrong(t *testing.T) {
	seen := map[api.Errno]int{}
	for _, text := range []string{short, loop, everything} {
		p := mustText(t, text)
		for _, w := range wrongs() {
			for _, first := range []api.Table{tops(t, p, plain()), tops(t, p, api.Config{Cap: 3}), nil} {
				wantNothing(t, p, w.c, first, 0, w.code)
			}
			seen[w.code]++
		}
	}
	if len(seen) != 9 {
		t.Errorf("not all refusals were seen: %v", seen)
	}
	wantNothing(t, api.Prog{}, api.Config{}, nil, 0, api.ErrCap)
}

// P25.1: each refusal alone: a first table that doesn't fit.
func TestTablesThatDontFit(t *testing.T) {
	for _, text := range []string{loop, everything, "var x; array a[2]; var y; assert x > 0;"} {
		p := mustText(t, text)
		for _, c := range corners() {
			number := len(mustSplit(t, p, c).Verts)
			for _, e := range []api.Env{top(t, p), lost()} {
				for _, first := range misfits(number, e) {
					wantNoSite(t, p, c, first, 0, api.ErrPut)
				}
			}
		}
	}
	// A table of another configuration's part.
	p := mustText(t, loop)
	wantNoSite(t, p, plain(), tops(t, p, api.Config{Hist: 1, Cap: 6}), 0, api.ErrPut)
	wantNoSite(t, p, api.Config{Hist: 1, Cap: 6}, tops(t, p, plain()), 0, api.ErrPut)
	// An Env with Dead set fits, whatever its lists.
	p = mustText(t, short)
	odd := api.Env{Dead: true, Vars: list(is(1), is(2)), Arrays: list(is(3))}
	wantSite(t, p, plain(), api.Table{odd, odd, odd}, 0, safe(0), 0)
}

// P25.1: each refusal alone: a site that is none; of a program without sites each one is.
func TestSitesThatAreNone(t *testing.T) {
	for _, text := range []string{short, twins, loop, everything} {
		p := mustText(t, text)
		for _, c := range corners() {
			first := tops(t, p, c)
			for _, site := range noSites(len(p.Sites)) {
				wantNoSite(t, p, c, first, site, api.ErrArg)
			}
			if _, _, _, code := Site(p, c, first, len(p.Sites)-1); code != api.OK {
				t.Errorf("P25.1: the last site is refused: %v", code)
			}
		}
	}
	for _, text := range []string{"", "var x;", "skip;", "var x; while x < 3 { x := x + 1; }"} {
		p := mustText(t, text)
		for _, c := range corners() {
			for _, site := range append(noSites(0), 1, 2) {
				wantNoSite(t, p, c, tops(t, p, c), site, api.ErrArg)
			}
		}
		wantAll(t, text, rounded(3, 4, 9))
	}
	wantNoSite(t, api.Prog{}, plain(), api.Table{{}}, 0, api.ErrArg)
	if r, code := All(api.Prog{}, plain()); code != api.OK || len(r.Verdicts) != 0 || r.Posts != 0 {
		t.Errorf("P25.2: All of the program without anything = %+v, %v", r, code)
	}
}

// faults are, of each argument of Site, a right one at the place 0 and wrong ones behind it.
type faults struct {
	progs  []api.Prog
	codes  []api.Errno
	config []api.Config
	tables []api.Table
	sites  []int
}

func newFaults(t *testing.T) faults {
	p := mustText(t, everything)
	f := faults{codes: []api.Errno{api.OK}, config: []api.Config{rounded(1, 1, 9)}}
	f.progs = append([]api.Prog{p}, bad(t)[1], bad(t)[7], bad(t)[9], bad(t)[14])
	seen := map[api.Errno]int{}
	for _, w := range wrongs() {
		if seen[w.code]++; seen[w.code] == 1 {
			f.codes, f.config = append(f.codes, w.code), append(f.config, w.c)
		}
	}
	number := len(mustSplit(t, p, plain()).Verts)
	f.tables = append([]api.Table{filled(number, top(t, p))}, misfits(number, lost())[:9]...)
	f.sites = append([]int{0}, noSites(len(p.Sites))...)
	return f
}

// want is the refusal that is told, if what stands at these places comes together.
func (f faults) want(prog, config, table, site int) api.Errno {
	switch {
	case prog > 0:
		return api.ErrPut
	case config > 0:
		return f.codes[config]
	case table > 0:
		return api.ErrPut
	case site > 0:
		return api.ErrArg
	}
	return api.OK
}

// P25.1, P25.2: each two, three and all refusals together: the one that stands ahead is told.
func TestRefusalsTogether(t *testing.T) {
	t.Parallel()
	f := newFaults(t)
	if len(f.codes) != 10 {
		t.Fatalf("the configurations tell %v", f.codes)
	}
	for i, p := range f.progs {
		for j, c := range f.config {
			for k, first := range f.tables {
				for l, site := range f.sites {
					want := f.want(i, j, k, l)
					if want != api.OK {
						wantNoSite(t, p, c, first, site, want)
					} else if _, _, _, code := Site(p, c, first, site); code != api.OK {
						t.Errorf("P25.1: Site refuses what is right: %v", code)
					}
				}
			}
			if want := f.want(i, j, 0, 0); want != api.OK {
				wantNoAll(t, p, c, want)
			} else if _, code := All(p, c); code != api.OK {
				t.Errorf("P25.2: All refuses what is right: %v", code)
			}
		}
	}
}
