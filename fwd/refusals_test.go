package fwd

import (
	"math"
	"testing"

	"winnow/api"
	"winnow/check"
)

// corners are configurations with the fields that make a part, and those of the pass, at their least and greatest numbers, and some between.
func corners() []api.Config {
	list := []api.Config{
		{Hist: 1, Unroll: 1, Cap: 2, Narrow: 2},
		{Hist: 2, Unroll: 2, Cap: 3, Delay: 2, Thresholds: []int64{-3, 4}},
		{Hist: 1, Unroll: 2, Cap: 4, Delay: 1, Narrow: 1, Fuel: 30},
	}
	for _, h := range []int{0, api.MaxHist} {
		for _, u := range []int{0, api.MaxUnroll} {
			for _, most := range []int{1, api.MaxCap} {
				list = append(list,
					api.Config{Hist: h, Unroll: u, Cap: most, Narrow: h, Delay: 2 * u},
					api.Config{Hist: h, Unroll: u, Cap: most, Narrow: u, Delay: h, Thresholds: []int64{math.MinInt64, -1, 0, 5, 6, math.MaxInt64}})
			}
		}
	}
	return list
}

// wrong is a configuration that is refused, and its number.
type wrong struct {
	code api.Errno
	c    api.Config
}

// wrongs have each field alone that is wrong, below and above; and some several ones.
func wrongs() []wrong {
	list := []wrong{
		{192, api.Config{}},
		{190, api.Config{Hist: 4, Unroll: -1}},
		{191, api.Config{Unroll: 4, Cap: 7, Tries: -1}},
		{192, api.Config{Cap: 7, Delay: -1}},
		{196, api.Config{Cap: 1, Thresholds: []int64{1, 1}}},
		{196, api.Config{Cap: 1, Thresholds: []int64{2, 1}, Fuel: -1}},
		{196, api.Config{Cap: 1, Thresholds: []int64{1, 2, 3, 4, 5, 6, 7}}},
	}
	for _, f := range []struct {
		code        api.Errno
		least, most int
		of          func(c *api.Config) *int
	}{
		{190, 0, 3, func(c *api.Config) *int { return &c.Hist }},
		{191, 0, 3, func(c *api.Config) *int { return &c.Unroll }},
		{192, 1, 6, func(c *api.Config) *int { return &c.Cap }},
		{193, 0, 6, func(c *api.Config) *int { return &c.Delay }},
		{194, 0, 3, func(c *api.Config) *int { return &c.Narrow }},
		{195, 0, 3, func(c *api.Config) *int { return &c.Rounds }},
		{197, 0, 5000, func(c *api.Config) *int { return &c.Fuel }},
		{198, 0, 4, func(c *api.Config) *int { return &c.Tries }},
	} {
		for _, v := range []int{f.least - 1, f.most + 1, math.MinInt, math.MaxInt} {
			c := api.Config{Cap: 3, Thresholds: []int64{1, 5}}
			*f.of(&c) = v
			list = append(list, wrong{f.code, c})
		}
	}
	return list
}

// bad are Progs that aren't good; of all their scalars and arrays the lists are often those of everything.
func bad(t *testing.T) []api.Prog {
	spoil := []func(p *api.Prog){
		func(p *api.Prog) { *p = api.Prog{Nodes: p.Nodes} },
		func(p *api.Prog) { p.Nodes = nil },
		func(p *api.Prog) { p.Nodes = p.Nodes[:len(p.Nodes)-1] },
		func(p *api.Prog) { p.Nodes = make([]api.Node, 1000) },
		func(p *api.Prog) { p.Scalars[0] = "z" },
		func(p *api.Prog) { p.Scalars = nil },
		func(p *api.Prog) { p.Arrays[0].Len = 3 },
		func(p *api.Prog) { p.Arrays = append(p.Arrays, api.Array{Name: "b", Len: 1}) },
		func(p *api.Prog) { p.Symbols = nil },
		func(p *api.Prog) { p.Sites = p.Sites[1:] },
		func(p *api.Prog) { p.SiteOf = nil },
		func(p *api.Prog) { p.Nodes[4].Kind = 99 },
		func(p *api.Prog) { p.Nodes[3].Depth = math.MinInt },
		func(p *api.Prog) { p.Nodes[3].Name = "q" },
	}
	list := []api.Prog{{Scalars: []string{"x"}}, {Sites: []int{0}}, {Nodes: make([]api.Node, 1)}}
	for i, change := range spoil {
		p := mustText(t, everything)
		change(&p)
		if check.Good(p) {
			t.Fatalf("the Prog %d is still good", i)
		}
		list = append(list, p)
	}
	return list
}

// unfit are Envs that don't fit a program of two scalars and one array.
func unfit() []api.Env {
	one := is(0)
	return []api.Env{
		{}, vars(one), vars(one, one), both(nil, list(one)), both(list(one), list(one)), both(list(one, one, one), list(one)),
		both(list(one, one), list(one, one)), both(list(one), list(one, one)), vars(num0(), num0()), both(list(num0()), list(num0())),
	}
}

// num0 is a Num that has no number: an Env of another shape doesn't fit for all that it is dead by its normal form.
func num0() api.Num { return api.Num{Bot: true} }

// wantNoRun holds that Run refuses.
func wantNoRun(t *testing.T, p api.Prog, c api.Config, start api.Env, limit api.Table, want api.Errno) {
	t.Helper()
	if got, number, code := Run(p, c, start, limit); code != want || got != nil || number != 0 {
		t.Errorf("P22.1: Run with %+v from %v within %d Envs %v = %v, %d, %v, want %v", c, start, len(limit), limit, got, number, code, want)
	}
}

// wantNoAlarms holds that Alarms refuses.
func wantNoAlarms(t *testing.T, p api.Prog, c api.Config, u api.Table, want api.Errno) {
	t.Helper()
	if got, code := Alarms(p, c, u); code != want || got != nil {
		t.Errorf("P22.2: Alarms with %+v of %d Envs %v = %v, %v, want %v", c, len(u), u, got, code, want)
	}
}

// misfits are tables that don't fit a program of two scalars and one array whose part has so many vertices: too few Envs, too many, and one of another shape at the first, a middle and the last place.
func misfits(number int, e api.Env) []api.Table {
	tables := []api.Table{filled(number+1, e), filled(2*number, e)}
	if number > 1 {
		tables = append(tables, filled(number-1, e), filled(1, e))
	}
	for _, place := range []int{0, number / 2, number - 1} {
		for _, other := range unfit() {
			tables = append(tables, except(filled(number, e), place, other))
		}
	}
	return tables
}

// P22.1, P22.2: each refusal alone: a Prog that isn't good.
func TestProgsThatArentGood(t *testing.T) {
	whole := both(list(is(0), is(0)), list(is(0)))
	for _, p := range bad(t) {
		for _, start := range []api.Env{whole, lost(), {}, vars(is(0))} {
			for _, u := range []api.Table{nil, {}, {lost()}, filled(17, whole)} {
				wantNoRun(t, p, plain(), start, u, api.ErrPut)
			}
		}
		for _, u := range []api.Table{nil, {}, {lost()}, {{}}, filled(17, whole)} {
			wantNoAlarms(t, p, plain(), u, api.ErrPut)
		}
	}
}

// P22.1: each refusal alone: a start that doesn't fit.
func TestStartsThatDontFit(t *testing.T) {
	for _, text := range []string{loop, everything, "var x; array a[2]; var y;"} {
		p := mustText(t, text)
		for _, start := range unfit() {
			for _, c := range corners() {
				wantNoRun(t, p, c, start, nil, api.ErrPut)
				wantNoRun(t, p, c, start, api.Table{}, api.ErrPut)
				wantNoRun(t, p, c, start, filled(len(mustSplit(t, p, c).Verts), top(t, p)), api.ErrPut)
			}
		}
		// One that has Dead set fits, whatever its lists.
		for _, start := range unfit() {
			start.Dead = true
			wantRun(t, p, plain(), start, nil, filled(len(mustSplit(t, p, plain()).Verts), lost()), 0)
		}
	}
	wantNoRun(t, mustText(t, ""), plain(), vars(is(0)), nil, api.ErrPut)
}

// P22.1, P22.2: each refusal alone: each of the configuration's.
func TestConfigurationsThatAreWrong(t *testing.T) {
	seen := map[api.Errno]int{}
	for _, text := range []string{"", "skip;", short, loop, everything} {
		p := mustText(t, text)
		for _, w := range wrongs() {
			wantNoRun(t, p, w.c, zeros(t, p), nil, w.code)
			wantNoRun(t, p, w.c, lost(), api.Table{}, w.code)
			wantNoRun(t, p, w.c, top(t, p), filled(3, top(t, p)), w.code)
			wantNoAlarms(t, p, w.c, filled(3, top(t, p)), w.code)
			wantNoAlarms(t, p, w.c, nil, w.code)
			seen[w.code]++
		}
	}
	if len(seen) != 9 {
		t.Errorf("not all refusals were seen: %v", seen)
	}
	wantNoRun(t, api.Prog{}, api.Config{}, api.Env{}, nil, api.ErrCap)
	wantNoAlarms(t, api.Prog{}, api.Config{}, api.Table{{}}, api.ErrCap)
}

// P22.1, P22.2: each refusal alone: a table that doesn't fit; of Alarms none is wanting either.
func TestTablesThatDontFit(t *testing.T) {
	for _, text := range []string{loop, everything, "var x; array a[2]; var y;"} {
		p := mustText(t, text)
		for i, c := range corners() {
			number := len(mustSplit(t, p, c).Verts)
			for _, e := range []api.Env{top(t, p), lost()} {
				for _, u := range misfits(number, e) {
					wantNoAlarms(t, p, c, u, api.ErrPut)
					if i < 7 {
						wantNoRun(t, p, c, zeros(t, p), u, api.ErrPut)
						wantNoRun(t, p, c, lost(), u, api.ErrPut)
					}
				}
			}
			wantNoAlarms(t, p, c, nil, api.ErrPut)
			wantNoAlarms(t, p, c, api.Table{}, api.ErrPut)
		}
	}
	// An Env with Dead set fits, whatever its lists.
	p := mustText(t, short)
	odd := api.Env{Dead: true, Vars: list(is(1), is(2))}
	wantAlarms(t, p, plain(), api.Table{odd, odd, odd})
	wantRun(t, p, plain(), zeros(t, p), api.Table{odd, odd, odd}, filled(3, lost()), 0)
	// Without a limit, nil or empty, nothing is refused.
	want := api.Table{vars(is(0)), top(t, p), vars(from(1))}
	wantRun(t, p, plain(), zeros(t, p), nil, want, 6)
	wantRun(t, p, plain(), zeros(t, p), api.Table{}, want, 6)
	wantRun(t, p, plain(), zeros(t, p), make(api.Table, 0, 9), want, 6)
	wantRun(t, p, plain(), zeros(t, p), filled(9, lost())[:0], want, 6)
}

// faults are, of each argument of Run, a right one at the place 0 and wrong ones behind it.
type faults struct {
	progs  []api.Prog
	starts []api.Env
	codes  []api.Errno
	config []api.Config
	limits []api.Table
}

func newFaults(t *testing.T) faults {
	p := mustText(t, everything)
	f := faults{codes: []api.Errno{api.OK}, config: []api.Config{plain()}}
	f.progs = append([]api.Prog{p}, bad(t)[1], bad(t)[7], bad(t)[9])
	f.starts = append([]api.Env{zeros(t, p)}, unfit()[:5]...)
	seen := map[api.Errno]int{}
	for _, w := range wrongs() {
		if seen[w.code]++; seen[w.code] == 1 {
			f.codes, f.config = append(f.codes, w.code), append(f.config, w.c)
		}
	}
	number := len(mustSplit(t, p, plain()).Verts)
	f.limits = append([]api.Table{filled(number, top(t, p))}, misfits(number, lost())[:8]...)
	return f
}

// P22.1: each two, three and all refusals together: the one that stands ahead is told.
func TestRefusalsTogether(t *testing.T) {
	f := newFaults(t)
	if len(f.codes) != 10 {
		t.Fatalf("the configurations tell %v", f.codes)
	}
	for i, p := range f.progs {
		for j, start := range f.starts {
			for k, c := range f.config {
				for l, limit := range f.limits {
					switch {
					case i > 0 || j > 0:
						wantNoRun(t, p, c, start, limit, api.ErrPut)
					case k > 0:
						wantNoRun(t, p, c, start, limit, f.codes[k])
					case l > 0:
						wantNoRun(t, p, c, start, limit, api.ErrPut)
					default:
						if _, _, code := Run(p, c, start, limit); code != api.OK {
							t.Errorf("P22.1: Run refuses what is right: %v", code)
						}
					}
				}
			}
		}
	}
}

// P22.2: likewise of Alarms.
func TestRefusalsOfAlarmsTogether(t *testing.T) {
	f := newFaults(t)
	for i, p := range f.progs {
		for k, c := range f.config {
			for l, u := range append(f.limits, nil, api.Table{}) {
				switch {
				case i > 0:
					wantNoAlarms(t, p, c, u, api.ErrPut)
				case k > 0:
					wantNoAlarms(t, p, c, u, f.codes[k])
				case l > 0:
					wantNoAlarms(t, p, c, u, api.ErrPut)
				default:
					if _, code := Alarms(p, c, u); code != api.OK {
						t.Errorf("P22.2: Alarms refuses what is right: %v", code)
					}
				}
			}
		}
	}
}
