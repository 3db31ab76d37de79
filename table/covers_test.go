package table

import (
	"fmt"
	"math"
	"testing"

	"winnow/api"
	"winnow/env"
	"winnow/num"
	"winnow/part"
	"winnow/walk"
)

// state is one of a run: its vertex, its node and its store.
type state struct {
	vertex, node int
	store        api.Store
}

// states are those of a run by the chapter's words: the stops of the walk, each at the vertex to which the edges that were gone up to it lead.
func states(t testing.TB, p api.Prog, c api.Config, tape []int64) []state {
	t.Helper()
	path, code := walk.Path(p, tape, c.Fuel)
	if code != api.OK {
		t.Fatalf("Path with the fuel %d = %v", c.Fuel, code)
	}
	var list []state
	for node, store := range walk.Stops(p, tape, c.Fuel) {
		vertex, code := part.Follow(p, c, path[:len(list)])
		if code != api.OK {
			t.Fatalf("Follow(%v) = %v", path[:len(list)], code)
		}
		list = append(list, state{vertex, node, store})
	}
	if len(list) != len(path)+1 {
		t.Fatalf("there are %d states and %d edges", len(list), len(path))
	}
	return list
}

// wantByWords holds an answer of Covers against the states, and tells it.
func wantByWords(t *testing.T, p api.Prog, c api.Config, u api.Table, tape []int64, run []state) (bool, int) {
	t.Helper()
	want, place := true, 0
	for i, s := range run {
		if !env.Has(u[s.vertex], s.store) {
			want, place = false, i
			break
		}
	}
	wantCovers(t, p, c, u, tape, want, place)
	return want, place
}

// wantCovers holds an answer of Covers.
func wantCovers(t *testing.T, p api.Prog, c api.Config, u api.Table, tape []int64, want bool, place int) {
	t.Helper()
	ok, number, code := Covers(p, c, u, tape)
	if ok != want || number != place || code != api.OK {
		t.Errorf("P21.4: Covers with %+v of %v and the tape %v = %v, %d, %v, want %v, %d", c, u, tape, ok, number, code, want, place)
	}
}

// just is the Env of one store.
func just(s api.Store) api.Env {
	e := api.Env{}
	for _, v := range s.Vars {
		e.Vars = append(e.Vars, is(v))
	}
	for _, elements := range s.Arrays {
		a := num.Bot()
		for _, v := range elements {
			a = num.Join(a, is(v))
		}
		e.Arrays = append(e.Arrays, a)
	}
	return e
}

// least is the table of the Envs that have a run's states at their vertices, and no store at others.
func least(t testing.TB, p api.Prog, c api.Config, run []state) api.Table {
	u := mustDead(t, p, c)
	for _, s := range run {
		u[s.vertex] = env.Join(u[s.vertex], just(s.store))
	}
	return u
}

// The chapter's example 3.
func TestExamplesOfCovers(t *testing.T) {
	p := mustText(t, short)
	zero, any, up := vars(is(0)), vars(num.Top()), vars(above(0))
	wantCovers(t, p, one(), api.Table{zero, any, up}, []int64{7}, true, 0)
	wantCovers(t, p, one(), api.Table{zero, any, up}, []int64{-1}, true, 0)
	wantCovers(t, p, one(), api.Table{zero, any, up}, nil, true, 0)
	wantCovers(t, p, one(), api.Table{zero, any, up}, []int64{}, true, 0)
	wantCovers(t, p, one(), api.Table{zero, vars(in(0, 5)), any}, []int64{7}, false, 1)
	for _, row := range []struct {
		tape   []int64
		number int
	}{{[]int64{7}, 3}, {[]int64{-1}, 2}, {nil, 1}} {
		if run := states(t, p, one(), row.tape); len(run) != row.number {
			t.Errorf("the run on %v has the states %v", row.tape, run)
		}
	}
}

// ended is a run, and how many states it has.
type ended struct {
	text   string
	tape   []int64
	fuel   int
	kind   api.OutKind
	number int
}

// endings are runs of each kind, with the fuel just enough and one less, and at its least.
func endings() []ended {
	return []ended{
		{"", nil, 0, api.Halt, 1},
		{"var x;", nil, 5, api.Halt, 1},
		{"skip;", nil, 0, api.OutOfFuel, 1},
		{"skip;", nil, 1, api.Halt, 2},
		{short, []int64{7}, 0, api.OutOfFuel, 1},
		{short, []int64{7}, 1, api.OutOfFuel, 2},
		{short, []int64{7}, 2, api.Halt, 3},
		{short, []int64{7, 8}, 5000, api.Halt, 3},
		{short, []int64{0}, 1, api.OutOfFuel, 2},
		{short, []int64{0}, 2, api.Faulted, 2},
		{short, nil, 0, api.OutOfFuel, 1},
		{short, nil, 1, api.Exhausted, 1},
		{short, nil, 9, api.Exhausted, 1},
		{"assert false;", nil, 9, api.Faulted, 1},
		{"assert false;", nil, 0, api.OutOfFuel, 1},
		{"var x; x := 1; x := 1 / (x - 1); skip;", nil, 9, api.Faulted, 2},
		{"array a[2]; var x; x := 2; skip; a[x] := 1;", nil, 9, api.Faulted, 3},
		{"var x; x := 3; if 1 / (x - 3) < 1 { skip; } else { }", nil, 9, api.Faulted, 2},
		{"var x; while 1 / (2 - x) >= 0 { x := x + 1; }", nil, 9, api.Faulted, 5},
		{loop, []int64{-5, 1, 2, 3}, 60, api.Halt, 17},
		{loop, []int64{-5, 1, 2}, 60, api.Exhausted, 15},
		{loop, []int64{2, 1, 9, 5}, 60, api.Halt, 13},
		{loop, []int64{2, 1}, 8, api.OutOfFuel, 9},
		{loop, []int64{9}, 60, api.Halt, 5},
		{"var x; while true { x := x + 1; }", nil, 5000, api.OutOfFuel, 5001},
	}
}

// P21.4: runs that end in each way: the least table covers them, and so does the one that has all stores.
func TestEndings(t *testing.T) {
	for _, r := range endings() {
		p := mustText(t, r.text)
		outcome, _, _ := walk.Run(p, r.tape, r.fuel)
		for _, c := range corners() {
			if r.number > 1000 && c.Cap > 1 {
				continue
			}
			c.Fuel = r.fuel
			run := states(t, p, c, r.tape)
			if outcome.Kind != r.kind || len(run) != r.number {
				t.Errorf("the run of %q on %v with the fuel %d ends %v, with %d states", r.text, r.tape, r.fuel, outcome, len(run))
			}
			u := least(t, p, c, run)
			wantCovers(t, p, c, u, r.tape, true, 0)
			// Numbers in the room behind the tape are none of it.
			wantCovers(t, p, c, u, append(append([]int64(nil), r.tape...), 7, 7, 7)[:len(r.tape)], true, 0)
			top, _ := env.Top(p)
			wantCovers(t, p, c, filled(len(u), top), r.tape, true, 0)
			wantCovers(t, p, c, mustDead(t, p, c), r.tape, false, 0)
		}
	}
}

// P21.4: what comes behind the run's last state isn't asked for: the fuel is used up, the tape is read, or a step faults.
func TestNothingBehindTheLastState(t *testing.T) {
	for _, r := range endings() {
		p := mustText(t, r.text)
		for _, c := range corners() {
			c.Fuel = r.fuel
			if r.number > 100 {
				continue
			}
			run := states(t, p, c, r.tape)
			top, _ := env.Top(p)
			u := mustDead(t, p, c)
			for _, s := range run {
				u[s.vertex] = top
			}
			wantCovers(t, p, c, u, r.tape, true, 0)
		}
	}
	p := mustText(t, "var x; x := 1; x := 2; x := 3;")
	for fuel := range 5 {
		u := api.Table{vars(in(0, 0)), vars(in(1, 1)), vars(in(0, 0)), vars(in(0, 0))}
		wantCovers(t, p, api.Config{Cap: 1, Fuel: fuel}, u, nil, fuel < 2, []int{0, 0, 2, 2, 2}[fuel])
	}
}

// P21.4: a table that misses all at one vertex: the first state there is told, and it alone is asked for.
func TestOneVertexMissed(t *testing.T) {
	places := map[string]int{}
	for _, r := range endings() {
		p := mustText(t, r.text)
		for _, c := range corners() {
			c.Fuel = r.fuel
			if r.number > 100 {
				continue
			}
			run := states(t, p, c, r.tape)
			top, _ := env.Top(p)
			for vertex := range mustSplit(t, p, c).Verts {
				_, place := wantByWords(t, p, c, except(filled(len(mustSplit(t, p, c).Verts), top), vertex, lost()), r.tape, run)
				switch place {
				case 0:
					places["first"]++
				case len(run) - 1:
					places["last"]++
				default:
					places["middle"]++
				}
			}
		}
	}
	if places["first"] < 50 || places["middle"] < 50 || places["last"] < 50 {
		t.Errorf("the tables are too much alike: %v", places)
	}
}

// P21.4: in a row of assignments each state has a vertex of its own: each is missed alone, by one that is too small, too great, of another class, and dead.
func TestEachStateMissedAlone(t *testing.T) {
	p := mustText(t, "var x; array a[3]; x := 1; a[0] := 2; x := 5; a[2] := -4; skip; input x;")
	c, tape := api.Config{Hist: 2, Unroll: 1, Cap: 3, Fuel: 20}, []int64{math.MinInt64}
	run := states(t, p, c, tape)
	u := least(t, p, c, run)
	for place, s := range run {
		e := u[s.vertex]
		for _, other := range []api.Env{
			lost(),
			env.SetVar(e, 0, is(s.store.Vars[0]+1)),
			env.SetVar(e, 0, is(s.store.Vars[0]-1)),
			env.SetVar(e, 0, num.Make(num.Top().I, api.Cong{M: 2, R: uint64(s.store.Vars[0]+1) % 2})),
			env.SetArray(e, 0, is(7)),
			env.SetArray(e, 0, in(-3, 0)),
			env.SetArray(e, 0, num.Bot()),
			both(list(raw(1, 0, 1, 0)), e.Arrays),
		} {
			if env.Has(other, s.store) {
				continue
			}
			wantCovers(t, p, c, except(u, s.vertex, other), tape, false, place)
		}
	}
	if len(run) != 7 {
		t.Errorf("the run has %d states", len(run))
	}
}

// P21.4: a loop's states at one vertex: the first, a middle one and the last one alone are missed.
func TestOneOfSeveralAtAVertex(t *testing.T) {
	p := mustText(t, "var x; while x < 4 { x := x + 1; }")
	c := api.Config{Cap: 1, Fuel: 99}
	any := vars(num.Top())
	head := func(a api.Num) api.Table { return api.Table{vars(a), any, any} }
	wantCovers(t, p, c, head(in(0, 4)), nil, true, 0)
	wantCovers(t, p, c, head(in(1, 4)), nil, false, 0)
	wantCovers(t, p, c, head(in(0, 3)), nil, false, 8)
	wantCovers(t, p, c, head(num.Make(api.Ival{Lo: 0, Hi: 4}, api.Cong{M: 2})), nil, false, 2)
	wantCovers(t, p, c, head(num.Make(api.Ival{Lo: 0, Hi: 4}, api.Cong{M: 4})), nil, false, 2)
	wantCovers(t, p, c, head(in(0, 1)), nil, false, 4)
	wantCovers(t, p, c, api.Table{any, any, vars(in(5, 9))}, nil, false, 9)
	wantCovers(t, p, c, api.Table{any, vars(in(0, 2)), any}, nil, false, 7)
	wantCovers(t, p, c, api.Table{any, vars(in(0, 2)), vars(is(5))}, nil, false, 7)
	wantCovers(t, p, c, api.Table{vars(in(0, 1)), vars(in(0, 2)), lost()}, nil, false, 4)
	c.Fuel = 3
	wantCovers(t, p, c, head(in(0, 1)), nil, true, 0)
	c.Fuel = 4
	wantCovers(t, p, c, head(in(0, 1)), nil, false, 4)
}

// P21.4: a state that is in the table at another vertex of its node, but not at its own.
func TestAnotherVertexOfItsNode(t *testing.T) {
	asked := 0
	for _, r := range []ended{
		{text: "var x; input x; if x < 0 { x := 1; } else { x := 2; } skip;", tape: []int64{-3}, fuel: 9},
		{text: "var x; input x; if x < 0 { x := 1; } else { x := 2; } skip;", tape: []int64{3}, fuel: 9},
		{text: "var x; input x; if x < 0 { } else { } skip;", tape: []int64{3}, fuel: 9},
		{text: "var x; input x; if x < 0 { } else { } skip;", tape: []int64{-3}, fuel: 9},
		{text: "var x; while x < 3 { x := x + 1; }", fuel: 99},
		{text: loop, tape: []int64{-5, 1, 2, 3}, fuel: 60},
	} {
		p := mustText(t, r.text)
		c := api.Config{Hist: 1, Unroll: 2, Cap: 6, Fuel: r.fuel}
		x, run := mustSplit(t, p, c), states(t, p, c, r.tape)
		top, _ := env.Top(p)
		for vertex, v := range x.Verts {
			u := filled(len(x.Verts), top)
			u[vertex] = lost()
			ok, place := wantByWords(t, p, c, u, r.tape, run)
			if ok {
				continue
			}
			// The store is at hand at each other vertex of the node.
			for other, w := range x.Verts {
				if other != vertex && w.Node == v.Node && env.Has(u[other], run[place].store) {
					asked++
				}
			}
			// And at its own vertex alone it is enough.
			alone := mustDead(t, p, c)
			for _, s := range run {
				alone[s.vertex] = top
			}
			wantCovers(t, p, c, alone, r.tape, true, 0)
		}
	}
	if asked < 20 {
		t.Errorf("only %d states were in the table at another vertex", asked)
	}
}

// P21.4: both edges of an if lead to one node: the vertex is told by the edge that was gone, not by the node.
func TestTwoEdgesToOneNode(t *testing.T) {
	p := mustText(t, "var x; input x; if x < 0 { } else { }")
	c := api.Config{Hist: 1, Cap: 2, Fuel: 9}
	if x := mustSplit(t, p, c); len(x.Verts) != 4 || x.Verts[2].Node != 2 || x.Verts[3].Node != 2 {
		t.Fatalf("the vertices are %v", x.Verts)
	}
	zero, any := vars(is(0)), vars(num.Top())
	low, high := vars(in(math.MinInt64, -1)), vars(in(0, math.MaxInt64))
	for _, v := range []int64{math.MinInt64, -1, 0, 1, math.MaxInt64} {
		wantCovers(t, p, c, api.Table{zero, any, low, high}, []int64{v}, true, 0)
		wantCovers(t, p, c, api.Table{zero, any, high, low}, []int64{v}, false, 2)
	}
	// With a small Cap the node is merged.
	c.Cap = 1
	wantCovers(t, p, c, api.Table{zero, any, any}, []int64{4}, true, 0)
	wantCovers(t, p, c, api.Table{zero, any, low}, []int64{4}, false, 2)
}

// P21.4: the rounds of a loop are told apart by Unroll.
func TestRoundsToldApart(t *testing.T) {
	p := mustText(t, "var x; while x < 4 { x := x + 1; }")
	c := api.Config{Unroll: 2, Cap: 3, Fuel: 99}
	x := mustSplit(t, p, c)
	// The while's node: {}, one round, two rounds or more; its body: one, two or more; and the end.
	want := map[string]api.Num{"0 []": is(0), "1 [{0 1}]": is(0), "2 []": is(4), "0 [{0 1}]": is(1), "1 [{0 2}]": in(1, 3), "0 [{0 2}]": in(2, 4)}
	var u api.Table
	for _, v := range x.Verts {
		a, known := want[fmt.Sprint(v.Node, " ", v.Token.Loops)]
		if !known {
			t.Fatalf("the vertex %v isn't known", v)
		}
		u = append(u, vars(a))
	}
	wantCovers(t, p, c, u, nil, true, 0)
	for vertex := range u {
		for _, a := range []api.Num{in(5, 9), in(math.MinInt64, -1)} {
			wantByWords(t, p, c, except(u, vertex, vars(a)), nil, states(t, p, c, nil))
		}
	}
}

// P21.4: a table that misses several states: the first of them is told.
func TestSeveralMissed(t *testing.T) {
	p := mustText(t, "var x; x := 1; x := 2; x := 3;")
	for mask := range 16 {
		var u api.Table
		first := -1
		for i := range 4 {
			if mask>>i&1 == 1 {
				u = append(u, vars(is(9)))
				if first < 0 {
					first = i
				}
			} else {
				u = append(u, vars(is(int64(i))))
			}
		}
		wantCovers(t, p, one(), u, nil, mask == 0, max(first, 0))
	}
}

// P21.4: great runs, and a great tape of which little is read.
func TestGreatRuns(t *testing.T) {
	p := mustText(t, "var x; var y; while true { input x; y := y + 1; }")
	c := api.Config{Hist: 3, Unroll: 3, Cap: 6, Fuel: api.MaxFuel}
	tape := make([]int64, 100000)
	any := vars(num.Top(), num.Top())
	number := len(mustSplit(t, p, c).Verts)
	wantCovers(t, p, c, filled(number, any), tape, true, 0)
	low := filled(number, vars(num.Top(), in(0, 1000)))
	wantCovers(t, p, c, low, tape, false, 3003)
	tape[1000] = 5
	wantCovers(t, p, c, filled(number, vars(is(0), num.Top())), tape, false, 3002)
	wantCovers(t, p, c, filled(number, vars(is(0), num.Top())), tape[:1000], true, 0)
}
