package replay

import (
	"math"
	"testing"

	"winnow/api"
	"winnow/check"
	"winnow/env"
)

// wrong is a configuration that is refused, and its number.
type wrong struct {
	code api.Errno
	c    api.Config
}

// wrongs have each field alone that is wrong, below and above; and some several ones.
func wrongs() []wrong {
	list := []wrong{
		{192, api.Config{}},
		{190, api.Config{Hist: 4, Unroll: -1}},
		{191, api.Config{Unroll: 4, Cap: 7, Tries: -1}},
		{192, api.Config{Cap: 7, Delay: -1}},
		{196, api.Config{Cap: 1, Thresholds: []int64{1, 1}}},
		{196, api.Config{Cap: 1, Thresholds: []int64{2, 1}, Fuel: -1}},
		{196, api.Config{Cap: 1, Thresholds: []int64{1, 2, 3, 4, 5, 6, 7}}},
		{197, api.Config{Cap: 1, Fuel: 5001, Tries: 5}},
	}
	for _, f := range []struct {
		code        api.Errno
		least, most int
		of          func(c *api.Config) *int
	}{
		{190, 0, 3, func(c *api.Config) *int { return &c.Hist }},
		{191, 0, 3, func(c *api.Config) *int { return &c.Unroll }},
		{192, 1, 6, func(c *api.Config) *int { return &c.Cap }},
		{193, 0, 6, func(c *api.Config) *int { return &c.Delay }},
		{194, 0, 3, func(c *api.Config) *int { return &c.Narrow }},
		{195, 0, 3, func(c *api.Config) *int { return &c.Rounds }},
		{197, 0, 5000, func(c *api.Config) *int { return &c.Fuel }},
		{198, 0, 4, func(c *api.Config) *int { return &c.Tries }},
	} {
		for _, v := range []int{f.least - 1, f.most + 1, math.MinInt, math.MaxInt} {
			c := api.Config{Cap: 3, Thresholds: []int64{1, 5}, Fuel: 9, Tries: 4}
			*f.of(&c) = v
			list = append(list, wrong{f.code, c})
		}
	}
	return list
}

// bad are Progs that aren't good; of all their scalars and arrays the lists are often those of everything.
func bad(t *testing.T) []api.Prog {
	spoil := []func(p *api.Prog){
		func(p *api.Prog) { *p = api.Prog{Nodes: p.Nodes} },
		func(p *api.Prog) { p.Nodes = nil },
		func(p *api.Prog) { p.Nodes = p.Nodes[:len(p.Nodes)-1] },
		func(p *api.Prog) { p.Nodes = make([]api.Node, 1000) },
		func(p *api.Prog) { p.Scalars[0] = "z" },
		func(p *api.Prog) { p.Scalars = nil },
		func(p *api.Prog) { p.Arrays[0].Len = 3 },
		func(p *api.Prog) { p.Arrays = append(p.Arrays, api.Array{Name: "b", Len: 1}) },
		func(p *api.Prog) { p.Symbols = nil },
		func(p *api.Prog) { p.Sites = p.Sites[1:] },
		func(p *api.Prog) { p.Sites = append(p.Sites, 1) },
		func(p *api.Prog) { p.SiteOf = nil },
		func(p *api.Prog) { p.Nodes[4].Kind = 99 },
		func(p *api.Prog) { p.Nodes[3].Depth = math.MinInt },
		func(p *api.Prog) { p.Nodes[3].Name = "q" },
	}
	list := []api.Prog{{Scalars: []string{"x"}}, {Sites: []int{0}}, {Nodes: make([]api.Node, 1)}}
	for i, change := range spoil {
		p := mustText(t, everything)
		change(&p)
		if check.Good(p) {
			t.Fatalf("the Prog %d is still good", i)
		}
		list = append(list, p)
	}
	return list
}

// unfit are Envs that don't fit a program of two scalars and one array; one of another shape doesn't fit for all that it is dead by its normal form.
func unfit() []api.Env {
	one, none := is(0), api.Num{Bot: true}
	return []api.Env{
		{}, vars(one), vars(one, one), both(nil, list(one)), both(list(one), list(one)), both(list(one, one, one), list(one)),
		both(list(one, one), list(one, one)), both(list(one), list(one, one)), vars(none, none), both(list(none), list(none)),
	}
}

// misfits are tables that don't fit a program of two scalars and one array whose part has so many vertices: none, too few Envs, too many, and one of another shape at the first, a middle and the last place.
func misfits(number int, e api.Env) []api.Table {
	tables := []api.Table{nil, {}, make(api.Table, 0, number), filled(number-1, e), filled(number+1, e), filled(2*number, e), filled(number, e)[:number-1]}
	for _, place := range []int{0, number / 2, number - 1} {
		for _, other := range unfit() {
			tables = append(tables, except(filled(number, e), place, other))
		}
	}
	return tables
}

// not are numbers that are none of so many.
func not(number int) []int {
	return []int{-1, number, number + 1, math.MinInt, math.MaxInt, -number - 1, api.MaxSites + number, 1 << 32, -1 << 32}
}

// wantNoTape holds that Tape refuses.
func wantNoTape(t *testing.T, p api.Prog, c api.Config, u api.Table, try int, want api.Errno) {
	t.Helper()
	if tape, code := Tape(p, c, u, try); code != want || tape != nil {
		t.Errorf("P24.2: Tape with %+v by %d Envs %v, try %d = %v, %v, want %v", c, len(u), u, try, tape, code, want)
	}
}

// wantNoFind holds that Find refuses.
func wantNoFind(t *testing.T, p api.Prog, c api.Config, u api.Table, site int, want api.Errno) {
	t.Helper()
	if tape, n, ok, code := Find(p, c, u, site); code != want || tape != nil || n != 0 || ok {
		t.Errorf("P24.3: Find with %+v by %d Envs %v, site %d = %v, %d, %v, %v, want %v", c, len(u), u, site, tape, n, ok, code, want)
	}
}

// wantRefused holds that both refuse.
func wantRefused(t *testing.T, p api.Prog, c api.Config, u api.Table, number int, want api.Errno) {
	t.Helper()
	wantNoTape(t, p, c, u, number, want)
	wantNoFind(t, p, c, u, number, want)
}

// P24.2, P24.3: each refusal alone: a Prog that isn't good.
func TestProgsThatArentGood(t *testing.T) {
	whole := both(list(is(0), is(0)), list(is(0)))
	number := len(mustSplit(t, mustText(t, everything), plain()).Verts)
	for _, p := range bad(t) {
		for _, u := range []api.Table{nil, {}, {lost()}, {{}}, filled(number, whole), filled(number, lost())} {
			for _, n := range []int{0, 1, -1, 99} {
				wantRefused(t, p, plain(), u, n, api.ErrPut)
			}
		}
	}
}

// P24.2, P24.3: each refusal alone: each of the configuration's.
func TestConfigurationsThatAreWrong(t *testing.T) {
	seen := map[api.Errno]int{}
	for _, text := range []string{nine, loop, everything} {
		p := mustText(t, text)
		for _, w := range wrongs() {
			for _, u := range []api.Table{tops(t, p, plain()), tops(t, p, api.Config{Cap: 3}), nil} {
				wantRefused(t, p, w.c, u, 0, w.code)
			}
			seen[w.code]++
		}
	}
	if len(seen) != 9 {
		t.Errorf("not all refusals were seen: %v", seen)
	}
	wantRefused(t, api.Prog{}, api.Config{}, nil, 0, api.ErrCap)
}

// P24.2, P24.3: each refusal alone: a table that doesn't fit.
func TestTablesThatDontFit(t *testing.T) {
	for _, text := range []string{loop, everything, "var x; array a[2]; var y; assert x > 0;"} {
		p := mustText(t, text)
		for _, c := range corners() {
			number := len(mustSplit(t, p, c).Verts)
			for _, e := range []api.Env{mustEnv(t, env.Top, p), lost()} {
				for _, u := range misfits(number, e) {
					wantRefused(t, p, c, u, 0, api.ErrPut)
				}
			}
		}
	}
	// A table of another configuration's part.
	p := mustText(t, loop)
	wantRefused(t, p, plain(), tops(t, p, api.Config{Hist: 1, Cap: 6}), 0, api.ErrPut)
	// An Env with Dead set fits, whatever its lists.
	p = mustText(t, nine)
	odd := api.Env{Dead: true, Vars: list(is(1), is(2)), Arrays: list(is(3))}
	wantTape(t, p, plain(), api.Table{odd, odd, odd}, 2, math.MaxInt64)
	wantFound(t, p, plain(), api.Table{odd, vars(is(9)), odd}, 0, 2, 9)
}

// P24.2: each refusal alone: a try that is none, for each number of tries.
func TestTriesOfTapeThatAreNone(t *testing.T) {
	for _, text := range []string{"", nine, loop, everything, nested} {
		p := mustText(t, text)
		for _, c := range corners() {
			for tries := range api.MaxTries + 1 {
				c.Tries = tries
				u := tops(t, p, c)
				for _, try := range not(tries) {
					wantNoTape(t, p, c, u, try, api.ErrArg)
				}
				for try := range tries {
					if _, code := Tape(p, c, u, try); code != api.OK {
						t.Errorf("P24.2: Tape with %+v, try %d = %v", c, try, code)
					}
				}
			}
		}
	}
}

// P24.3: each refusal alone: a site that is none; of a program without sites each one is, and with no tries, too.
func TestSitesThatAreNone(t *testing.T) {
	for _, text := range []string{"", "var x;", "skip;", endless, "var x; while x < 3 { x := x + 1; }", nine, loop, everything, nested} {
		p := mustText(t, text)
		for _, c := range corners() {
			u := tops(t, p, c)
			for _, site := range not(len(p.Sites)) {
				wantNoFind(t, p, c, u, site, api.ErrArg)
			}
			for site := range p.Sites {
				if _, _, _, code := Find(p, c, u, site); code != api.OK {
					t.Errorf("P24.3: Find with %+v, site %d = %v", c, site, code)
				}
			}
		}
	}
	wantNoFind(t, api.Prog{}, plain(), api.Table{{}}, 0, api.ErrArg)
}

// faults are, of each argument, a right one at the place 0 and wrong ones behind it.
type faults struct {
	progs  []api.Prog
	codes  []api.Errno
	config []api.Config
	tables []api.Table
	tries  []int
	sites  []int
}

func newFaults(t *testing.T) faults {
	p := mustText(t, everything)
	f := faults{codes: []api.Errno{api.OK}, config: []api.Config{plain()}}
	f.progs = append([]api.Prog{p}, bad(t)[1], bad(t)[7], bad(t)[9], bad(t)[13])
	seen := map[api.Errno]int{}
	for _, w := range wrongs() {
		if seen[w.code]++; seen[w.code] == 1 {
			f.codes, f.config = append(f.codes, w.code), append(f.config, w.c)
		}
	}
	number := len(mustSplit(t, p, plain()).Verts)
	f.tables = append([]api.Table{filled(number, mustEnv(t, env.Top, p))}, misfits(number, lost())[:9]...)
	f.tries = append([]int{0}, not(plain().Tries)...)
	f.sites = append([]int{0}, not(len(p.Sites))...)
	return f
}

// want is the refusal that is told, if what stands at these places comes together.
func (f faults) want(prog, config, table, number int) api.Errno {
	switch {
	case prog > 0:
		return api.ErrPut
	case config > 0:
		return f.codes[config]
	case table > 0:
		return api.ErrPut
	case number > 0:
		return api.ErrArg
	}
	return api.OK
}

// P24.2, P24.3: each two, three and all refusals together: the one that stands ahead is told.
func TestRefusalsTogether(t *testing.T) {
	t.Parallel()
	f := newFaults(t)
	if len(f.codes) != 10 || len(f.tries) != len(f.sites) {
		t.Fatalf("the configurations tell %v; there are %d tries and %d sites", f.codes, len(f.tries), len(f.sites))
	}
	for i, p := range f.progs {
		for j, c := range f.config {
			for k, u := range f.tables {
				for l, site := range f.sites {
					want := f.want(i, j, k, l)
					if want != api.OK {
						wantNoTape(t, p, c, u, f.tries[l], want)
						wantNoFind(t, p, c, u, site, want)
						continue
					}
					_, code := Tape(p, c, u, f.tries[l])
					if _, _, _, code2 := Find(p, c, u, site); code != api.OK || code2 != api.OK {
						t.Errorf("P24.2, P24.3: what is right is refused: %v, %v", code, code2)
					}
				}
			}
		}
	}
}
