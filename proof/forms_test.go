package proof

import (
	"math"
	"testing"

	"winnow/api"
	"winnow/env"
)

// rough is a Num that means the same, but isn't in its normal form, where there is one.
func rough(a api.Num, kind int) api.Num {
	switch {
	case a.Bot:
		return []api.Num{{Bot: true, I: api.Ival{Lo: 1, Hi: 2}}, raw(2, 1, 1, 0), raw(4, 6, 4, 3), raw(0, 4, 0, 9)}[kind%4]
	case a.C.M == 0 && kind%2 == 0:
		// One number: by the class alone, or by the interval.
		return raw(math.MinInt64, math.MaxInt64, 0, a.C.R)
	case a.C.M == 0:
		return raw(a.I.Lo, a.I.Hi, 1, 7)
	}
	if a.C.R < 1<<40 && a.C.M < 1<<40 {
		a.C.R += a.C.M * uint64(kind)
	}
	// Beyond its ends there is no number of its class for a while.
	step := int64(min(a.C.M-1, 1<<40))
	a.I.Lo = max(a.I.Lo, math.MinInt64+step) - step
	a.I.Hi = min(a.I.Hi, math.MaxInt64-step) + step
	return a
}

// roughEnv is an Env that means the same: a dead one with lists that fit nothing, or with one Num that has no number.
func roughEnv(e api.Env, shape api.Env, kind int) api.Env {
	e = env.Norm(e)
	out := copied(e)
	switch {
	case e.Dead && kind%3 == 0:
		return api.Env{Dead: true, Vars: list(is(0), is(1), is(2), is(3), is(4)), Arrays: list(every())}
	case e.Dead && kind%3 == 1 && len(shape.Vars) > 0:
		out = copied(shape)
		out.Vars[kind%len(out.Vars)] = rough(api.Num{Bot: true}, kind)
		return out
	case e.Dead:
		return e
	}
	for i, a := range out.Vars {
		out.Vars[i] = rough(a, kind+i)
	}
	for i, a := range out.Arrays {
		out.Arrays[i] = rough(a, kind+i)
	}
	return out
}

// roughTables mean the same as some others.
func roughTables(tables []api.Table, shape api.Env, kind int) []api.Table {
	var out []api.Table
	for i, u := range tables {
		var v api.Table
		for j, e := range u {
			v = append(v, roughEnv(e, shape, kind+i+j))
		}
		out = append(out, v)
	}
	return out
}

// P26.1: tables that aren't in their normal form are told as what they mean.
func TestFormsThatMeanTheSame(t *testing.T) {
	y := eachText(t, texts(), func(t *testing.T, p api.Prog, y *tally) {
		seen := map[string]int{}
		for j, c := range corners() {
			for site := range p.Sites {
				if (j+site)%4 > 0 {
					continue
				}
				w := newWords(t, p, c, site)
				for k, tables := range append(w.lists(), w.chains()...) {
					if (j/4+k)%3 > 0 || len(w.links) > 20 && (j+k)%2 > 0 {
						continue
					}
					want := Check(p, c, site, tables)
					for kind := range 3 {
						wantCheck(t, p, c, site, want, roughTables(tables, w.z, kind)...)
					}
					if want {
						seen["shown"]++
					} else {
						seen["not"]++
					}
				}
			}
		}
		y.add(seen)
	})
	wantSeen(t, y.seen, map[string]int{"shown": 800, "not": 2500})
}

// P26.1: tables of all stores hold for each program; they show the sites that can't fault, whatever the numbers are, and no others. Backwards they show none, as the zeros are in them.
func TestAllStoresEverywhere(t *testing.T) {
	for _, row := range []struct {
		text  string
		shown []bool // by site
	}{
		{"assert true;", []bool{true}}, {"assert false;", []bool{false}}, {"assert 1 / 0 == 0 || true;", []bool{true, false}}, {short, []bool{false}}, {twins, []bool{false}},
		{climb, []bool{true, true}}, {calm, []bool{true, true, true}}, {middle, []bool{false}}, {"var x; if x != 0 { x := 1 / x; }", []bool{false}},
		{"var x; if x > 0 { x := 1 / x; } assert x < 5;", []bool{false, false}},
		// Nothing comes to the value of the last store.
		{"array a[2]; a[1] := a[0]; a[2] := 5; a[0 - 1] := a[a[0]];", []bool{true, true, false, false, true, true}},
		{"var x; while x * 2 / 4 < 9 { x := 7 % (x * 2 + 1); }", []bool{true, true}},
	} {
		p := mustText(t, row.text)
		if len(p.Sites) != len(row.shown) {
			t.Fatalf("%q has %d sites", row.text, len(p.Sites))
		}
		for _, c := range corners() {
			all := tops(t, p, c)
			for site, want := range row.shown {
				wantCheck(t, p, c, site, want, all)
				wantCheck(t, p, c, site, want, all, all, all)
				wantCheck(t, p, c, site, false, all, all)
				wantCheck(t, p, c, site, false, all, all, all, all)
			}
		}
	}
}

// P26.1: greater tables than the analysis makes, by hand: they hold, and show what they show.
func TestGreaterTablesByHand(t *testing.T) {
	p, c := mustText(t, halves), plain()
	for _, row := range []struct {
		behind api.Num // the if
		end    api.Num
		want   bool
	}{
		{from(0), from(0), true}, {from(0), every(), true}, {from(0), from(-9), true},
		{from(-1), from(-1), false}, {every(), every(), false}, {from(1), from(0), false}, {upTo(0), from(0), false},
	} {
		wantCheck(t, p, c, 0, row.want, numbers(is(0), every(), upTo(-1), from(0), row.behind, row.end))
		wantCheck(t, p, c, 0, row.want, numbers(every(), every(), every(), from(0), row.behind, row.end))
		wantCheck(t, p, c, 0, row.want, numbers(in(-5, 5), every(), upTo(3), from(0), row.behind, row.end))
	}
	// Behind the if's false edge x is from 0 on, so that the table must have that, and may have more only if it shows the same.
	wantCheck(t, p, c, 0, false, numbers(is(0), every(), every(), from(1), from(0), from(0)))
	wantCheck(t, p, c, 0, false, numbers(is(0), every(), every(), every(), from(0), from(0)))
}

// P26.1: dead Envs where nothing leads, and where something does.
func TestDeadEnvsByHand(t *testing.T) {
	c := plain()
	p := mustText(t, "var x; if x != 0 { x := 1 / x; }")
	z := is(0)
	for _, none := range []api.Env{lost(), vars(num0()), vars(raw(1, 0, 1, 0)), vars(raw(4, 6, 4, 3)), {Dead: true, Vars: list(z, z), Arrays: list(z)}} {
		wantCheck(t, p, c, 0, true, api.Table{vars(z), none, vars(z)})
		wantCheck(t, p, c, 0, true, api.Table{vars(z), none, vars(every())})
		wantCheck(t, p, c, 0, false, api.Table{vars(z), none, none})
		wantCheck(t, p, c, 0, false, api.Table{none, none, vars(z)})
		wantCheck(t, p, c, 0, false, api.Table{vars(in(0, 1)), none, vars(in(0, 1))})
		wantCheck(t, p, c, 0, false, api.Table{none, none, none})
		// The division may be by 1 or more, which is no way to the fault; by 0 to 1 it is.
		wantCheck(t, p, c, 0, true, api.Table{vars(in(0, 1)), vars(is(1)), vars(in(0, 1))})
		wantCheck(t, p, c, 0, false, api.Table{vars(in(0, 1)), vars(in(0, 1)), vars(in(0, 1))})
	}
	// What stands behind a loop that is never left.
	p = mustText(t, "var x; while true { x := x + 1; } assert x == 0;")
	wantCheck(t, p, c, 0, true, api.Table{vars(every()), vars(every()), lost(), lost()})
	wantCheck(t, p, c, 0, true, api.Table{vars(every()), vars(every()), vars(z), vars(z)}, api.Table{lost(), lost(), lost(), lost()})
	wantCheck(t, p, c, 0, false, api.Table{vars(every()), lost(), lost(), lost()})
	wantCheck(t, p, c, 0, false, api.Table{vars(every()), vars(every()), vars(is(1)), lost()})
}

// num0 is the Num that has no number.
func num0() api.Num { return api.Num{Bot: true} }
