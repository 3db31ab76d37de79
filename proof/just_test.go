package proof

import (
	"math"
	"slices"
	"testing"

	"winnow/api"
	"winnow/env"
	"winnow/num"
)

// wanted is the least Env that is asked for at a vertex of the table at a place, by the sentences of the chapter's words.
func wanted(demands []demand, vertex int) api.Env {
	e := lost()
	for _, d := range demands {
		if d.vertex == vertex {
			e = env.Join(e, d.e)
		}
	}
	return e
}

// lessOne are a Num without its least number, without its greatest, and without those of another class.
func lessOne(a api.Num) []api.Num {
	var list []api.Num
	if a.I.Lo < math.MaxInt64 {
		list = append(list, num.Meet(a, from(a.I.Lo+1)))
	}
	if a.I.Hi > math.MinInt64 {
		list = append(list, num.Meet(a, upTo(a.I.Hi-1)))
	}
	if a.C.M > 0 && a.C.M < 1<<40 {
		list = append(list, num.Meet(a, raw(math.MinInt64, math.MaxInt64, 2*a.C.M, a.C.R)), num.Meet(a, raw(math.MinInt64, math.MaxInt64, 2*a.C.M, a.C.R+a.C.M)))
	}
	return list
}

// lesser are an Env with one of its Nums a little less, and the dead one.
func lesser(e api.Env) []api.Env {
	if e.Dead {
		return nil
	}
	list := []api.Env{lost()}
	for i, a := range e.Vars {
		for _, b := range lessOne(a) {
			list = append(list, env.SetVar(e, i, b))
		}
	}
	for i, a := range e.Arrays {
		for _, b := range lessOne(a) {
			list = append(list, env.SetArray(e, i, b))
		}
	}
	return list
}

// places are the first, a middle and the last vertex, and some between.
func places(number int) []int {
	list := []int{0, number / 3, number / 2, 2 * number / 3, number - 1}
	return slices.Compact(list)
}

// wantJust holds of tables that are a chain: with an Env just as great as it is asked for they are one still; with a little less they aren't.
func (w *words) wantJust(seen map[string]int, tables []api.Table) {
	w.t.Helper()
	for place := range tables {
		demands := w.demands(tables, place)
		for _, vertex := range places(len(tables[place])) {
			just := wanted(demands, vertex)
			if !env.Leq(just, tables[place][vertex]) {
				w.t.Fatalf("the tables %v aren't a chain", tables)
			}
			if !w.want(seen, spoilt(tables, place, vertex, just)...) {
				w.t.Fatalf("P26.1: with %v at the vertex %d of the table %d of %v it isn't a chain any more", just, vertex, place, tables)
			}
			kind := []string{"first", "backward", "forward"}[min(place, 2-place%2)]
			seen["just "+kind]++
			for _, e := range lesser(just) {
				if !w.want(seen, spoilt(tables, place, vertex, e)...) {
					seen["less "+kind]++
				}
			}
		}
	}
}

// greater is some tables made greater by an Env at one vertex of each, and then until each holds.
func (w *words) greater(tables []api.Table, e api.Env) []api.Table {
	w.t.Helper()
	list := slices.Clone(tables)
	for i, u := range list {
		v := (3 + i) % len(u)
		list[i] = except(u, v, env.Join(u[v], e))
	}
	return w.closed(list)
}

// chains are some that show the site, if there are such: what Make makes, with more tables behind it, and greater ones.
func (w *words) chains() [][]api.Table {
	w.t.Helper()
	made, ok := Make(w.p, w.c, w.site)
	if !ok {
		return nil
	}
	first, z := made[0], w.z
	number := len(first)
	none := filled(number, lost())
	some := copied(z)
	for i := range some.Vars {
		some.Vars[i] = in(0, 4)
	}
	lists := [][]api.Table{
		made, w.greater(made, some), w.greater(made, top(w.t, w.p)), w.closed([]api.Table{first, none}), w.closed([]api.Table{tops(w.t, w.p, w.c), none}),
		w.greater([]api.Table{first, none}, some), w.closed([]api.Table{first, none, none}), w.greater([]api.Table{first, none, none, none}, some), w.greater([]api.Table{first, none, none, none, none}, z),
	}
	if len(made) == 1 {
		lists = append(lists, []api.Table{first, none, tops(w.t, w.p, w.c), w.closed([]api.Table{first, none})[1], first})
	}
	return slices.DeleteFunc(lists, func(tables []api.Table) bool {
		_, ok := w.tell(tables)
		return !ok
	})
}

// P26.1: in chains of programs of each shape: the Env at each place just as great as it must be, and a little less.
func TestJustGreatEnough(t *testing.T) {
	y := eachText(t, texts(), func(t *testing.T, p api.Prog, y *tally) {
		seen := map[string]int{}
		for j, c := range corners() {
			for site := range p.Sites {
				w := newWords(t, p, c, site)
				for k, tables := range w.chains() {
					if (j+k+site)%8 == 0 || len(tables[0]) < 4 {
						w.wantJust(seen, tables)
					}
				}
			}
		}
		y.add(seen)
	})
	wantSeen(t, y.seen, map[string]int{
		"just first": 1500, "just backward": 1500, "just forward": 1000, "less first": 10000, "less backward": 1500, "less forward": 800,
		"start": 1500, "link": 8000, "seed": 300, "pre": 1200, "start within": 250, "link within": 500,
	})
}
