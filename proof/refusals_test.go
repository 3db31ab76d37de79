package proof

import (
	"math"
	"slices"
	"testing"

	"winnow/api"
	"winnow/check"
)

// base is a configuration that is taken; so many vertices has calm's part with it.
func base() api.Config { return api.Config{Cap: 3, Rounds: 1, Thresholds: []int64{1, 5}} }

// wrong is a configuration that is refused, and its number.
type wrong struct {
	code api.Errno
	c    api.Config
}

// wrongs are base with each field alone that is wrong, below and above; and some with several ones.
func wrongs() []wrong {
	list := []wrong{
		{192, api.Config{}},
		{190, api.Config{Hist: 4, Unroll: -1}},
		{191, api.Config{Unroll: 4, Cap: 7, Tries: -1}},
		{192, api.Config{Cap: 7, Delay: -1}},
		{195, api.Config{Cap: 1, Rounds: 4, Tries: 5}},
		{196, api.Config{Cap: 1, Thresholds: []int64{1, 1}}},
		{196, api.Config{Cap: 1, Thresholds: []int64{2, 1}, Fuel: -1}},
		{196, api.Config{Cap: 1, Thresholds: []int64{1, 2, 3, 4, 5, 6, 7}}},
		{197, api.Config{Cap: 1, Fuel: 5001, Tries: 5}},
	}
	for _, f := range []struct {
		code        api.Errno
		least, most int
		of          func(c *api.Config) *int
	}{
		{190, 0, 3, func(c *api.Config) *int { return &c.Hist }},
		{191, 0, 3, func(c *api.Config) *int { return &c.Unroll }},
		{192, 1, 6, func(c *api.Config) *int { return &c.Cap }},
		{193, 0, 6, func(c *api.Config) *int { return &c.Delay }},
		{194, 0, 3, func(c *api.Config) *int { return &c.Narrow }},
		{195, 0, 3, func(c *api.Config) *int { return &c.Rounds }},
		{197, 0, 5000, func(c *api.Config) *int { return &c.Fuel }},
		{198, 0, 4, func(c *api.Config) *int { return &c.Tries }},
	} {
		for _, v := range []int{f.least - 1, f.most + 1, math.MinInt, math.MaxInt} {
			c := base()
			*f.of(&c) = v
			list = append(list, wrong{f.code, c})
		}
	}
	return list
}

// bad are Progs that aren't good: calm, spoilt, and some that have little at all.
func bad(t *testing.T) []api.Prog {
	t.Helper()
	spoil := []func(p *api.Prog){
		func(p *api.Prog) { *p = api.Prog{Nodes: p.Nodes} },
		func(p *api.Prog) { p.Nodes = nil },
		func(p *api.Prog) { p.Nodes = p.Nodes[:len(p.Nodes)-1] },
		func(p *api.Prog) { p.Nodes = make([]api.Node, 1000) },
		func(p *api.Prog) { p.Scalars[0] = "z" },
		func(p *api.Prog) { p.Scalars = nil },
		func(p *api.Prog) { p.Arrays[0].Len = 3 },
		func(p *api.Prog) { p.Arrays = append(p.Arrays, api.Array{Name: "b", Len: 1}) },
		func(p *api.Prog) { p.Symbols = nil },
		func(p *api.Prog) { p.Sites = p.Sites[1:] },
		func(p *api.Prog) { p.Sites = append(p.Sites, 1) },
		func(p *api.Prog) { p.Sites = make([]int, 1000) },
		func(p *api.Prog) { p.SiteOf = nil },
		func(p *api.Prog) { p.Nodes[4].Kind = 99 },
		func(p *api.Prog) { p.Nodes[3].Depth = math.MinInt },
		func(p *api.Prog) { p.Nodes[3].Name = "q" },
	}
	list := []api.Prog{{Scalars: []string{"x"}}, {Sites: []int{0}}, {Nodes: make([]api.Node, 1)}}
	for i, change := range spoil {
		p := mustText(t, calm)
		change(&p)
		if check.Good(p) {
			t.Fatalf("the Prog %d is still good", i)
		}
		list = append(list, p)
	}
	return list
}

// unfit are Envs that don't fit a program of two scalars and one array; one of another shape doesn't fit for all that it is dead by its normal form.
func unfit() []api.Env {
	one, none := every(), api.Num{Bot: true}
	return []api.Env{
		{}, vars(one), vars(one, one), both(nil, list(one)), both(list(one), list(one)), both(list(one, one, one), list(one)),
		both(list(one, one), list(one, one)), both(list(one), list(one, one)), vars(none, none), both(list(none), list(none)),
	}
}

// misfits are tables that don't fit a program of two scalars and one array whose part has so many vertices: none, too few Envs, too many, and one of another shape at the first, a middle and the last place.
func misfits(number int, e api.Env) []api.Table {
	tables := []api.Table{nil, {}, make(api.Table, 0, number), filled(number-1, e), filled(number+1, e), filled(2*number, e), filled(number, e)[:number-1]}
	for _, place := range []int{0, number / 2, number - 1} {
		for _, other := range unfit() {
			tables = append(tables, except(filled(number, e), place, other))
		}
	}
	return tables
}

// noSites are numbers that are no site of a program that has so many.
func noSites(number int) []int {
	return []int{-1, number, math.MinInt, math.MaxInt, number + 1, -number - 1, api.MaxSites, 1 << 32, -1 << 32}
}

// turns are so many tables, all stores and none in turns: of a site that can't fault, whatever the numbers are, they are a chain that shows it.
func turns(number int, all api.Table) []api.Table {
	var list []api.Table
	for i := range number {
		if i%2 == 0 {
			list = append(list, all)
		} else {
			list = append(list, filled(len(all), lost()))
		}
	}
	return list
}

// wantNothing holds that both refuse.
func wantNothing(t *testing.T, p api.Prog, c api.Config, site int, tables ...api.Table) {
	t.Helper()
	wantCheck(t, p, c, site, false, tables...)
	wantMake(t, p, c, site)
}

// wantBoth holds that nothing is refused.
func wantBoth(t *testing.T, p api.Prog, c api.Config, site int, tables ...api.Table) {
	t.Helper()
	wantCheck(t, p, c, site, true, tables...)
	wantMake(t, p, c, site, firstOf(t, p, c))
}

// P26.1, P26.2: each refusal alone: a Prog that isn't good.
func TestProgsThatArentGood(t *testing.T) {
	good := mustText(t, calm)
	all := tops(t, good, plain())
	for number := 1; number <= 3; number++ {
		wantBoth(t, good, plain(), 0, turns(number, all)...)
		for _, p := range bad(t) {
			for site := range good.Sites {
				wantNothing(t, p, plain(), site, turns(number, all)...)
				wantNothing(t, p, rounded(3, 4, 60), site, turns(number, all)...)
			}
		}
	}
	for _, p := range bad(t) {
		wantNothing(t, p, plain(), 0, api.Table{{}})
		wantNothing(t, p, plain(), 0, api.Table{lost()})
		wantNothing(t, p, plain(), 0)
	}
}

// P26.1, P26.2: each refusal alone: each of the configuration's.
func TestConfigurationsThatAreWrong(t *testing.T) {
	p := mustText(t, calm)
	seen := map[api.Errno]int{}
	for number := 1; number <= 3; number++ {
		wantBoth(t, p, base(), 0, turns(number, tops(t, p, base()))...)
		for _, w := range wrongs() {
			for site := range p.Sites {
				wantNothing(t, p, w.c, site, turns(number, tops(t, p, base()))...)
				wantNothing(t, p, w.c, site, turns(number, tops(t, p, plain()))...)
				wantNothing(t, p, w.c, site, turns(number, tops(t, p, api.Config{Hist: 3, Cap: 6}))...)
			}
			seen[w.code]++
		}
	}
	if len(seen) != 9 {
		t.Errorf("not all refusals were seen: %v", seen)
	}
}

// P26.1: each refusal alone: no tables, and more than there may be.
func TestNumbersOfTables(t *testing.T) {
	for _, text := range []string{calm, halves, "var x; if x != 0 { x := 1 / x; }"} {
		p := mustText(t, text)
		for _, c := range corners() {
			first := firstOf(t, p, c)
			wantCheck(t, p, c, 0, false)
			wantCheck(t, p, c, 0, false, []api.Table{}...)
			wantCheck(t, p, c, 0, false, turns(1, first)[:0]...)
			for number := 1; number <= 2*api.MaxRounds+1; number++ {
				wantCheck(t, p, c, 0, true, turns(number, first)...)
			}
			for _, number := range []int{2*api.MaxRounds + 2, 2*api.MaxRounds + 3, 20, 101} {
				wantCheck(t, p, c, 0, false, turns(number, first)...)
				wantCheck(t, p, c, 0, false, times(number, first)...)
			}
		}
	}
}

// P26.1: each refusal alone: a table that doesn't fit, as the first, a middle and the last one.
func TestTablesThatDontFit(t *testing.T) {
	p := mustText(t, calm)
	for i, c := range corners() {
		all := tops(t, p, c)
		number := len(all)
		for _, tables := range [][]api.Table{turns(1, all), turns(2, all), turns(3, all), turns(7, all)} {
			wantCheck(t, p, c, 0, true, tables...)
			for _, place := range []int{0, len(tables) / 2, len(tables) - 1} {
				for j, other := range slices.Concat(misfits(number, all[0]), misfits(number, lost())) {
					if (i+j)%3 == 0 || number < 9 {
						wantCheck(t, p, c, 0, false, replaced(tables, place, other)...)
					}
				}
			}
		}
	}
}

// replaced is some tables with another one at a place.
func replaced(tables []api.Table, place int, other api.Table) []api.Table {
	list := slices.Clone(tables)
	list[place] = other
	return list
}

// P26.1: a table of another configuration's part, and one of another program: of fewer vertices, of more, of other variables, and one that fits, but doesn't hold.
func TestTablesOfOthers(t *testing.T) {
	p := mustText(t, calm)
	for _, number := range []int{1, 2, 3, 6, 7} {
		many := api.Config{Hist: 1, Cap: 6}
		wantCheck(t, p, plain(), 0, false, turns(number, tops(t, p, many))...)
		wantCheck(t, p, many, 0, false, turns(number, tops(t, p, plain()))...)
		for _, text := range []string{short, twins, loop, everything, "var x; var y; array a[2]; skip;", "var x; array a[2]; array b[2]; var y; input x; while x < 3 { skip; }"} {
			wantCheck(t, p, plain(), 0, false, turns(number, tops(t, mustText(t, text), plain()))...)
		}
	}
	up, down := mustText(t, "var x; while x < 9 { x := x + 1; } assert x == 9;"), mustText(t, "var x; while x > -9 { x := x - 1; } assert x == -9;")
	c := api.Config{Cap: 1, Narrow: 2, Rounds: 1}
	a, b := firstOf(t, up, c), firstOf(t, down, c)
	none := filled(len(a), lost())
	for _, row := range []struct {
		p    api.Prog
		t, u api.Table // its own, and the other one's
	}{{up, a, b}, {down, b, a}} {
		wantCheck(t, row.p, c, 0, true, row.t)
		wantCheck(t, row.p, c, 0, true, row.t, none, row.t)
		wantCheck(t, row.p, c, 0, false, row.u)
		wantCheck(t, row.p, c, 0, false, row.u, none)
		wantCheck(t, row.p, c, 0, false, row.u, none, row.t)
		// What stands within nothing may be any table; in this one the site is an alarm.
		wantCheck(t, row.p, c, 0, false, row.t, none, row.u)
	}
}

// P26.1, P26.2: each refusal alone: a site that is none; of a program without sites each one is.
func TestSitesThatAreNone(t *testing.T) {
	p := mustText(t, calm)
	for _, c := range corners() {
		all := tops(t, p, c)
		for number := 1; number <= 3; number++ {
			for site := range p.Sites {
				wantBoth(t, p, c, site, turns(number, all)...)
			}
			for _, site := range noSites(len(p.Sites)) {
				wantNothing(t, p, c, site, turns(number, all)...)
			}
		}
	}
	for _, text := range []string{"", "var x;", "skip;", "var x; while x < 3 { x := x + 1; }"} {
		p := mustText(t, text)
		for _, c := range corners() {
			for _, site := range append(noSites(0), 1, 2) {
				for number := range 4 {
					wantNothing(t, p, c, site, turns(number, tops(t, p, c))...)
				}
			}
		}
	}
	wantNothing(t, api.Prog{}, plain(), 0, api.Table{{}})
	wantNothing(t, api.Prog{}, plain(), 0, api.Table{{}}, api.Table{{}})
}

// faults are, of each argument, a right one at the place 0 and wrong ones behind it.
type faults struct {
	progs  []api.Prog
	config []api.Config
	sites  []int
	chains [][]api.Table
}

func newFaults(t *testing.T) faults {
	t.Helper()
	p := mustText(t, calm)
	f := faults{config: []api.Config{base()}}
	f.progs = append([]api.Prog{p}, bad(t)[1], bad(t)[7], bad(t)[9], bad(t)[14])
	seen := map[api.Errno]int{}
	for _, w := range wrongs() {
		if seen[w.code]++; seen[w.code] == 1 {
			f.config = append(f.config, w.c)
		}
	}
	all := tops(t, p, base())
	f.sites = append([]int{0}, noSites(len(p.Sites))...)
	f.chains = [][]api.Table{turns(3, all), nil, {}, turns(9, all)}
	for i, other := range misfits(len(all), lost())[:10] {
		f.chains = append(f.chains, replaced(turns(3, all), i%3, other))
	}
	return f
}

// P26.1, P26.2: each two, three and all refusals together.
func TestRefusalsTogether(t *testing.T) {
	t.Parallel()
	f := newFaults(t)
	if len(f.config) != 10 {
		t.Fatalf("there are %d configurations", len(f.config))
	}
	for i, p := range f.progs {
		for j, c := range f.config {
			for k, site := range f.sites {
				for l, tables := range f.chains {
					wantCheck(t, p, c, site, i+j+k+l == 0, tables...)
				}
				if i+j+k > 0 {
					wantMake(t, p, c, site)
				}
			}
		}
	}
	wantBoth(t, f.progs[0], f.config[0], f.sites[0], f.chains[0]...)
}
