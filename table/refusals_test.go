package table

import (
	"math"
	"testing"

	"winnow/api"
	"winnow/check"
	"winnow/env"
)

// corners are configurations with Hist, Unroll and Cap at their least and greatest numbers, and some between.
func corners() []api.Config {
	list := []api.Config{{Hist: 1, Unroll: 1, Cap: 2}, {Hist: 2, Unroll: 2, Cap: 3}, {Hist: 1, Unroll: 2, Cap: 4, Fuel: 30}}
	for _, h := range []int{0, api.MaxHist} {
		for _, u := range []int{0, api.MaxUnroll} {
			for _, most := range []int{1, api.MaxCap} {
				list = append(list, api.Config{Hist: h, Unroll: u, Cap: most, Fuel: 9 * h})
			}
		}
	}
	return list
}

// wrong is a configuration that is refused, and its number.
type wrong struct {
	code api.Errno
	c    api.Config
}

// wrongs have each field alone that is wrong, below and above; and some several ones.
func wrongs() []wrong {
	list := []wrong{
		{192, api.Config{}},
		{190, api.Config{Hist: 4, Unroll: -1}},
		{191, api.Config{Unroll: 4, Cap: 7, Tries: -1}},
		{192, api.Config{Cap: 7, Delay: -1}},
		{196, api.Config{Cap: 1, Thresholds: []int64{1, 1}}},
		{196, api.Config{Cap: 1, Thresholds: []int64{2, 1}, Fuel: -1}},
		{196, api.Config{Cap: 1, Thresholds: []int64{1, 2, 3, 4, 5, 6, 7}}},
	}
	for _, f := range []struct {
		code        api.Errno
		least, most int
		of          func(c *api.Config) *int
	}{
		{190, 0, 3, func(c *api.Config) *int { return &c.Hist }},
		{191, 0, 3, func(c *api.Config) *int { return &c.Unroll }},
		{192, 1, 6, func(c *api.Config) *int { return &c.Cap }},
		{193, 0, 6, func(c *api.Config) *int { return &c.Delay }},
		{194, 0, 3, func(c *api.Config) *int { return &c.Narrow }},
		{195, 0, 3, func(c *api.Config) *int { return &c.Rounds }},
		{197, 0, 5000, func(c *api.Config) *int { return &c.Fuel }},
		{198, 0, 4, func(c *api.Config) *int { return &c.Tries }},
	} {
		for _, v := range []int{f.least - 1, f.most + 1, math.MinInt, math.MaxInt} {
			c := api.Config{Cap: 3, Thresholds: []int64{1, 5}}
			*f.of(&c) = v
			list = append(list, wrong{f.code, c})
		}
	}
	return list
}

// bad are Progs that aren't good.
func bad(t *testing.T) []api.Prog {
	spoil := []func(p *api.Prog){
		func(p *api.Prog) { *p = api.Prog{Nodes: p.Nodes} },
		func(p *api.Prog) { p.Nodes = nil },
		func(p *api.Prog) { p.Nodes = p.Nodes[:len(p.Nodes)-1] },
		func(p *api.Prog) { p.Nodes = make([]api.Node, 1000) },
		func(p *api.Prog) { p.Scalars[0] = "z" },
		func(p *api.Prog) { p.Scalars = nil },
		func(p *api.Prog) { p.Arrays[0].Len = 3 },
		func(p *api.Prog) { p.Arrays = append(p.Arrays, api.Array{Name: "b", Len: 1}) },
		func(p *api.Prog) { p.Symbols = nil },
		func(p *api.Prog) { p.Sites = p.Sites[1:] },
		func(p *api.Prog) { p.SiteOf = nil },
		func(p *api.Prog) { p.Nodes[4].Kind = 99 },
		func(p *api.Prog) { p.Nodes[3].Depth = math.MinInt },
		func(p *api.Prog) { p.Nodes[3].Name = "q" },
	}
	list := []api.Prog{{Scalars: []string{"x"}}, {Sites: []int{0}}, {Nodes: make([]api.Node, 1)}}
	for i, change := range spoil {
		p := mustText(t, everything)
		change(&p)
		if check.Good(p) {
			t.Fatalf("the Prog %d is still good", i)
		}
		list = append(list, p)
	}
	return list
}

// wantCode holds that Covers refuses.
func wantCode(t *testing.T, p api.Prog, c api.Config, u api.Table, tape []int64, want api.Errno) {
	t.Helper()
	if ok, number, code := Covers(p, c, u, tape); ok || number != 0 || code != want {
		t.Errorf("P21.4: Covers with %+v of %d Envs and the tape %v = %v, %d, %v, want %v", c, len(u), tape, ok, number, code, want)
	}
}

// wantNone holds that Dead, Fits and Covers refuse a Prog with a configuration, beside tables that would fit and others.
func wantNone(t *testing.T, p api.Prog, c api.Config, want api.Errno) {
	t.Helper()
	if d, code := Dead(p, c); code != want || d != nil {
		t.Errorf("P21.1: Dead with %+v = %v, %v, want %v", c, d, code, want)
	}
	var tables []api.Table
	for _, shape := range []api.Env{lost(), {}, vars(is(0)), both(list(is(0), is(0)), list(is(0)))} {
		for _, number := range []int{0, 1, 2, 3, 9, 17, 30} {
			tables = append(tables, filled(number, shape))
		}
	}
	for _, u := range append(tables, nil) {
		wantFits(t, p, c, u, false)
		wantCode(t, p, c, u, nil, want)
		wantCode(t, p, c, u, []int64{3, -1}, want)
	}
}

// P21.1, P21.2, P21.4: a Prog that isn't good is told ahead of all else.
func TestProgsThatArentGood(t *testing.T) {
	for _, p := range bad(t) {
		for _, c := range corners() {
			wantNone(t, p, c, api.ErrPut)
		}
		for _, w := range wrongs() {
			wantNone(t, p, w.c, api.ErrPut)
		}
	}
}

// P21.1, P21.2, P21.4: a good Prog beside each of the configuration's refusals, which come ahead of the table's.
func TestConfigurationsThatAreWrong(t *testing.T) {
	seen := map[api.Errno]int{}
	for _, text := range []string{"", "skip;", short, loop, everything} {
		for _, w := range wrongs() {
			wantNone(t, mustText(t, text), w.c, w.code)
			seen[w.code]++
		}
	}
	if len(seen) != 9 {
		t.Errorf("not all refusals were seen: %v", seen)
	}
	wantNone(t, api.Prog{}, api.Config{}, api.ErrCap)
}

// P21.4: a table that doesn't fit is told ahead of any state, also where the first state isn't in it.
func TestCoversOfTablesThatDontFit(t *testing.T) {
	p := mustText(t, loop)
	top, _ := env.Top(p)
	far := both(list(is(5), is(5)), list(is(5)))
	for _, c := range corners() {
		number := len(mustSplit(t, p, c).Verts)
		for _, tape := range [][]int64{nil, {}, {1, 2, 3}, {-9, 9}} {
			for _, base := range []api.Env{top, far, lost()} {
				for _, u := range []api.Table{nil, {}, filled(1, base), filled(number-1, base), filled(number+1, base)} {
					wantCode(t, p, c, u, tape, api.ErrPut)
				}
				for _, place := range []int{0, number / 2, number - 1} {
					for _, e := range unfit() {
						wantCode(t, p, c, except(filled(number, base), place, e), tape, api.ErrPut)
					}
				}
			}
		}
	}
}

// P21.4: the last vertex' Env doesn't fit, and no run comes there.
func TestUnfitWhereNoRunComes(t *testing.T) {
	p := mustText(t, "var x; assert false; skip;")
	zeros, _ := env.Zero(p)
	c := one()
	wantCode(t, p, c, api.Table{zeros, zeros, {}}, nil, api.ErrPut)
	if ok, number, code := Covers(p, c, api.Table{zeros, lost(), lost()}, nil); !ok || number != 0 || code != api.OK {
		t.Errorf("P21.4: Covers = %v, %d, %v", ok, number, code)
	}
}
