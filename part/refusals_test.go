package part

import (
	"math"
	"testing"

	"winnow/api"
	"winnow/check"
)

// corners are configurations with Hist, Unroll and Cap at their least and greatest numbers, and some between.
func corners() []api.Config {
	list := []api.Config{{Hist: 1, Unroll: 1, Cap: 2}, {Hist: 2, Unroll: 2, Cap: 3}, {Hist: 1, Unroll: 2, Cap: 4}}
	for _, h := range []int{0, api.MaxHist} {
		for _, u := range []int{0, api.MaxUnroll} {
			for _, most := range []int{1, api.MaxCap} {
				list = append(list, api.Config{Hist: h, Unroll: u, Cap: most})
			}
		}
	}
	return list
}

// wrong is a configuration that is refused, and its number.
type wrong struct {
	code api.Errno
	c    api.Config
}

// wrongs have each field alone that is wrong, below and above; and some several ones.
func wrongs() []wrong {
	list := []wrong{
		{192, api.Config{}},
		{190, api.Config{Hist: 4, Unroll: -1}},
		{191, api.Config{Unroll: 4, Cap: 7, Tries: -1}},
		{192, api.Config{Cap: 7, Delay: -1}},
		{196, api.Config{Cap: 1, Thresholds: []int64{1, 1}}},
		{196, api.Config{Cap: 1, Thresholds: []int64{2, 1}, Fuel: -1}},
		{196, api.Config{Cap: 1, Thresholds: []int64{1, 2, 3, 4, 5, 6, 7}}},
	}
	for _, f := range []struct {
		code        api.Errno
		least, most int
		of          func(c *api.Config) *int
	}{
		{190, 0, 3, func(c *api.Config) *int { return &c.Hist }},
		{191, 0, 3, func(c *api.Config) *int { return &c.Unroll }},
		{192, 1, 6, func(c *api.Config) *int { return &c.Cap }},
		{193, 0, 6, func(c *api.Config) *int { return &c.Delay }},
		{194, 0, 3, func(c *api.Config) *int { return &c.Narrow }},
		{195, 0, 3, func(c *api.Config) *int { return &c.Rounds }},
		{197, 0, 5000, func(c *api.Config) *int { return &c.Fuel }},
		{198, 0, 4, func(c *api.Config) *int { return &c.Tries }},
	} {
		for _, v := range []int{f.least - 1, f.most + 1, math.MinInt, math.MaxInt} {
			c := api.Config{Cap: 3, Thresholds: []int64{1, 5}}
			*f.of(&c) = v
			list = append(list, wrong{f.code, c})
		}
	}
	return list
}

// bad are Progs that aren't good.
func bad(t *testing.T) []api.Prog {
	spoil := []func(p *api.Prog){
		func(p *api.Prog) { *p = api.Prog{Nodes: p.Nodes} },
		func(p *api.Prog) { p.Nodes = nil },
		func(p *api.Prog) { p.Nodes = p.Nodes[:len(p.Nodes)-1] },
		func(p *api.Prog) { p.Nodes = make([]api.Node, 1000) },
		func(p *api.Prog) { p.Scalars[0] = "z" },
		func(p *api.Prog) { p.Scalars = nil },
		func(p *api.Prog) { p.Scalars = append(p.Scalars, "z") },
		func(p *api.Prog) { p.Arrays[0].Len = 3 },
		func(p *api.Prog) { p.Arrays = append(p.Arrays, api.Array{Name: "b", Len: 1}) },
		func(p *api.Prog) { p.Symbols = nil },
		func(p *api.Prog) { p.Sites = p.Sites[1:] },
		func(p *api.Prog) { p.SiteOf = nil },
		func(p *api.Prog) { p.Nodes[4].Kind = 99 },
		func(p *api.Prog) { p.Nodes[3].Depth = math.MinInt },
		func(p *api.Prog) { p.Nodes[3].Name = "q" },
	}
	list := []api.Prog{{Scalars: []string{"x"}}, {Sites: []int{0}}, {Nodes: make([]api.Node, 1)}}
	for i, change := range spoil {
		p := mustText(t, everything)
		change(&p)
		if check.Good(p) {
			t.Fatalf("the Prog %d is still good", i)
		}
		list = append(list, p)
	}
	return list
}

// wantNone holds that all three functions refuse a Prog with a configuration, whatever stands beside them.
func wantNone(t *testing.T, p api.Prog, c api.Config, want api.Errno) {
	t.Helper()
	if x, code := Split(p, c); code != want || x.Verts != nil || x.Links != nil || x.Merged != nil {
		t.Errorf("P20.1: Split with %+v = %v, %v, want %v", c, x, code, want)
	}
	for _, edge := range []int{0, -1, 1 << 20, math.MinInt, math.MaxInt} {
		for _, token := range []api.Token{{}, merged(), both(hist(1), loops(0, 1))} {
			wantNoStep(t, p, c, token, edge, want)
		}
		wantNoVertex(t, p, c, []int{edge}, want)
	}
	for _, path := range [][]int{nil, {}, {0, 1}, {7}, {0, 0, -1}} {
		wantNoVertex(t, p, c, path, want)
	}
}

// P20.1, P20.2, P20.3: a Prog that isn't good is told ahead of all else.
func TestProgsThatArentGood(t *testing.T) {
	for _, p := range bad(t) {
		for _, c := range corners() {
			wantNone(t, p, c, api.ErrPut)
		}
		for _, w := range wrongs() {
			wantNone(t, p, w.c, api.ErrPut)
		}
	}
}

// P20.1, P20.2, P20.3: a good Prog beside each of the configuration's refusals.
func TestConfigurationsThatAreWrong(t *testing.T) {
	seen := map[api.Errno]int{}
	for _, text := range []string{"", "skip;", example, everything} {
		for _, w := range wrongs() {
			wantNone(t, mustText(t, text), w.c, w.code)
			seen[w.code]++
		}
	}
	if len(seen) != 9 {
		t.Errorf("not all refusals were seen: %v", seen)
	}
	wantNone(t, api.Prog{}, api.Config{}, api.ErrCap)
}

// P20.2, P20.3: an edge or a path that is wrong, beside a good Prog and a right configuration.
func TestOnlyTheLastIsWrong(t *testing.T) {
	for _, text := range []string{"", "skip;", example, everything} {
		p := mustText(t, text)
		number := len(mustGraph(t, p).Edges)
		for _, c := range corners() {
			for _, edge := range []int{-1, number, math.MinInt, math.MaxInt} {
				wantNoStep(t, p, c, hist(1), edge, api.ErrArg)
				wantNoStep(t, p, c, merged(), edge, api.ErrArg)
				wantNoVertex(t, p, c, []int{edge}, api.ErrArg)
			}
			wantVertex(t, p, c, nil, 0)
			wantVertex(t, p, c, []int{}, 0)
		}
	}
}
