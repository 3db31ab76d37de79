package fwd

import (
	"slices"
	"testing"

	"winnow/api"
	"winnow/env"
	"winnow/move"
	"winnow/walk"
)

// alarms are those of a table by the chapter's words, and how often the site that is told most often is told.
func alarms(t testing.TB, p api.Prog, c api.Config, u api.Table) ([]int, int) {
	t.Helper()
	times := map[int]int{}
	for _, l := range mustSplit(t, p, c).Links {
		if env.Norm(u[l.From]).Dead {
			continue
		}
		_, sites, code := move.Post(p, l.Edge, u[l.From])
		if code != api.OK {
			t.Fatalf("Post along %d of %v = %v", l.Edge, u[l.From], code)
		}
		for _, site := range sites {
			times[site]++
		}
	}
	var told []int
	most := 0
	for site := range p.Sites {
		if times[site] > 0 {
			told = append(told, site)
		}
		most = max(most, times[site])
	}
	return told, most
}

// DOC.md's examples of the whole, as far as the pass from the store of zeros tells them.
func TestAlarmsOfTheWhole(t *testing.T) {
	decided := "var x; var y; input x; if x > 0 { y := 1; } else { y := 0; } if y == 1 { assert x > 0; }"
	for _, row := range []struct {
		text string
		c    api.Config
		want []int
	}{
		{short, plain(), []int{0}},
		{decided, plain(), []int{0}},
		{decided, api.Config{Hist: 1, Cap: 6}, nil},
		{decided, api.Config{Hist: 1, Cap: 1}, []int{0}},
		{"var x; input x; assert x != 7 || false;", plain(), []int{0}},
		{"array a[4]; var i; while i < 4 { a[i] := i; i := i + 1; }", plain(), nil},
		{"array a[4]; var i; while i < 4 { a[i] := i; i := i + 1; }", api.Config{Cap: 1, Thresholds: []int64{4}}, nil},
		{"var i; while i >= 0 { i := i + 1; } assert i < 0;", plain(), nil},
		{"var x; input x; x := x * 4; assert x % 2 == 0;", plain(), nil},
		{"var x; x := 1 / x;", plain(), []int{0}},
		{"var x; if x != 0 { x := 1 / x; }", plain(), nil},
		{"assert 1 / 0 == 0 || true;", plain(), []int{1}},
		{"", plain(), nil},
		{counting + " assert x == 3;", plain(), []int{0}},
		{counting + " assert x == 3;", api.Config{Cap: 6, Narrow: 2}, nil},
		{counting + " assert x == 3;", api.Config{Cap: 6, Delay: 6}, nil},
		{"var x; array a[2]; input x; a[x] := 1 / x; assert x < 2; assert x < 9;", plain(), []int{0, 1}},
	} {
		p := mustText(t, row.text)
		wantAlarms(t, p, row.c, passed(t, p, row.c, zeros(t, p)), row.want...)
	}
}

// P22.2: a site that several links tell is told once: both edges of a condition, and several vertices of a node.
func TestAlarmsOnce(t *testing.T) {
	p := mustText(t, "var x; input x; if x > 0 { } while 6 / x > x { x := x % x; }")
	greatest := 0
	for _, c := range append(corners(), plain(), api.Config{Hist: 1, Unroll: 1, Cap: 6}) {
		u := filled(len(mustSplit(t, p, c).Verts), top(t, p))
		want, most := alarms(t, p, c, u)
		if !slices.Equal(want, []int{0, 1}) || most < 2 {
			t.Errorf("with %+v the links tell %v, at most %d times", c, want, most)
		}
		wantAlarms(t, p, c, u, 0, 1)
		greatest = max(greatest, most)
	}
	if greatest != 8 { // both edges, with either decision, ahead of the first round and behind one
		t.Errorf("a site is told at most %d times", greatest)
	}
}

// P22.2: sites rise, though the links that tell them don't stand so: a vertex that is found later may be ahead in the tree.
func TestAlarmsRise(t *testing.T) {
	p := mustText(t, "var x; var y; if x > 0 { skip; y := 1 / y; y := 2 / y; } assert x > 5; x := 7 % y;")
	links := mustSplit(t, p, plain()).Links
	var places []int
	for _, l := range links {
		places = append(places, l.Edge)
	}
	if slices.IsSorted(places) {
		t.Fatalf("the links stand by rising edges: %v", places)
	}
	wantAlarms(t, p, plain(), filled(len(mustSplit(t, p, plain()).Verts), top(t, p)), 0, 1, 2, 3)
}

// P22.2: where a table is dead, by its normal form, nothing is told; tables that no pass has made.
func TestAlarmsOfDeadVertices(t *testing.T) {
	p := mustText(t, "var x; x := 1 / x; x := 2 / x; x := 3 / x; x := 4 / x;")
	zero := zeros(t, p)
	for _, none := range []api.Env{lost(), {Dead: true, Vars: list(is(0))}, {Dead: true, Vars: list(is(0), is(0))}, vars(num0()), vars(raw(3, 0, 1, 0)), vars(raw(0, 3, 5, 4)), vars(api.Num{Bot: true, I: api.Ival{Lo: -1, Hi: 1}, C: api.Cong{M: 1}})} {
		for mask := range 32 {
			var u api.Table
			var want []int
			for v := range 5 {
				if mask>>v&1 == 1 {
					u = append(u, none)
					continue
				}
				u = append(u, zero)
				if v < 4 {
					want = append(want, v)
				}
			}
			wantAlarms(t, p, plain(), u, want...)
		}
	}
	p = mustText(t, short)
	wantAlarms(t, p, plain(), api.Table{lost(), vars(is(-1)), lost()}, 0)
	wantAlarms(t, p, plain(), api.Table{top(t, p), vars(in(1, 5)), top(t, p)})
	wantAlarms(t, p, plain(), api.Table{top(t, p), vars(raw(-5, 9, 4, 7)), top(t, p)}, 0)
	wantAlarms(t, p, plain(), api.Table{top(t, p), vars(raw(0, 9, 4, 7)), top(t, p)})
}

// P22.2: one vertex of a node alone tells the site.
func TestAlarmsOfOneVertex(t *testing.T) {
	p := mustText(t, "var x; input x; if x > 0 { } else { } x := 1 / x;")
	c := api.Config{Hist: 1, Cap: 2}
	x := mustSplit(t, p, c)
	for v, vertex := range x.Verts {
		u := except(filled(len(x.Verts), vars(is(5))), v, vars(is(0)))
		if vertex.Node == 2 {
			wantAlarms(t, p, c, u, 0)
		} else {
			wantAlarms(t, p, c, u)
		}
	}
}

// P22.2: programs of each shape and by chance, with tables of passes and others, held against the chapter's words.
func TestAlarmsByWords(t *testing.T) {
	t.Parallel()
	for _, text := range texts() {
		p := mustText(t, text)
		for _, c := range corners() {
			for _, u := range limits(t, p, c)[2:] {
				want, _ := alarms(t, p, c, u)
				wantAlarms(t, p, c, u, want...)
			}
		}
	}
	m := newMaker(224)
	numbers := map[int]int{}
	for i := range 500 {
		p, c := mustText(t, m.program(1+i%4)), m.config()
		u := passed(t, p, c, m.start(t, p))
		for range 3 {
			want, _ := alarms(t, p, c, u)
			wantAlarms(t, p, c, u, want...)
			numbers[len(want)]++
			for v := range u {
				u[v] = m.fitting()
			}
		}
		if t.Failed() {
			t.FailNow()
		}
	}
	if numbers[0] < 100 || numbers[1] < 100 || numbers[2] < 100 || len(numbers) < 6 {
		t.Errorf("the tables are too much alike: %v", numbers)
	}
}

// faultOf is the site at which a run faults, or -1.
func faultOf(p api.Prog, tape []int64) int {
	outcome, _, _ := walk.Run(p, tape, 200)
	return outcome.Site
}

// DOC.md's point 12: a fault of a run is among the alarms of the pass.
func TestFaultsAreAlarms(t *testing.T) {
	t.Parallel()
	m := newMaker(225)
	faulted := 0
	for i := range 400 {
		p, c := mustText(t, m.program(1+i%4)), m.config()
		told, _ := Alarms(p, c, passed(t, p, c, m.withZeros(t, p)))
		for range 5 {
			site := faultOf(p, m.tape())
			if site < 0 {
				continue
			}
			faulted++
			if !slices.Contains(told, site) {
				t.Fatalf("a run faults at %d, and the alarms are %v", site, told)
			}
		}
	}
	if faulted < 150 {
		t.Errorf("only %d runs have faulted", faulted)
	}
}
