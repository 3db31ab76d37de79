package pass

import (
	"fmt"
	"slices"
	"testing"

	"winnow/api"
	"winnow/env"
	"winnow/num"
)

// at is an Env of one scalar.
func at(lo, hi int64) api.Env { return api.Env{Vars: []api.Num{num.Range(lo, hi)}} }

func lost() api.Env { return api.Env{Dead: true} }

// filled is a table of so many Envs, all alike.
func filled(number int, e api.Env) api.Table { return slices.Repeat(api.Table{e}, number) }

// except is a table with e at one place.
func except(t api.Table, place int, e api.Env) api.Table {
	u := slices.Clone(t)
	u[place] = e
	return u
}

func wantTable(t *testing.T, got, want api.Table) {
	t.Helper()
	if fmt.Sprint(got) != fmt.Sprint(want) {
		t.Errorf("P22.1, P23.1: the table is %v, want %v", got, want)
	}
}

func wantAsked(t *testing.T, got, want []int) {
	t.Helper()
	if !slices.Equal(got, want) {
		t.Errorf("P22.1, P23.1: the flow was asked at %v, want %v", got, want)
	}
}

// Chapter 10's examples 1 and 5, as links.
func TestOrder(t *testing.T) {
	for _, row := range []struct {
		verts int
		links []api.Link
		want  []api.Elem
	}{
		{1, nil, []api.Elem{{}}},
		{4, []api.Link{{From: 0, To: 1, Edge: 7}, {From: 1, To: 2, Edge: 9}, {From: 2, To: 1}, {From: 2, To: 3}}, []api.Elem{{}, {Vertex: 1, Depth: 1, Head: true}, {Vertex: 2, Depth: 1}, {Vertex: 3}}},
		{3, []api.Link{{From: 0, To: 1}, {From: 1, To: 2}, {From: 2, To: 0}, {From: 2, To: 1}}, []api.Elem{{Depth: 1, Head: true}, {Vertex: 1, Depth: 2, Head: true}, {Vertex: 2, Depth: 2}}},
	} {
		if got := Order(api.Part{Verts: make([]api.Vertex, row.verts), Links: row.links}); !slices.Equal(got, row.want) {
			t.Errorf("Order of %v = %v, want %v", row.links, got, row.want)
		}
	}
}

// counting is a ring of a head and a vertex behind it, which adds 1 up to 9; the vertex 2 stands alone.
func counting(asked *[]int) Flow {
	return func(t api.Table, v int) api.Env {
		*asked = append(*asked, v)
		switch {
		case v == 0 && t[1].Dead:
			return at(0, 0)
		case v == 0:
			return at(0, min(9, t[1].Vars[0].I.Hi+1))
		case v == 1:
			return t[0]
		}
		return lost()
	}
}

// P22.1, P23.1: the order says who comes when, and who is a head; a head leaps behind Delay changes; the last sweep changes nothing.
func TestSettled(t *testing.T) {
	straight := []api.Elem{{Vertex: 0, Depth: 1, Head: true}, {Vertex: 1, Depth: 1}, {Vertex: 2}}
	turned := []api.Elem{{Vertex: 2}, {Vertex: 1, Depth: 1}, {Vertex: 0, Depth: 1, Head: true}}
	for _, row := range []struct {
		order  []api.Elem
		c      api.Config
		most   int64
		sweeps int
	}{
		{straight, api.Config{}, 1<<63 - 1, 3},
		{straight, api.Config{Delay: 1}, 1<<63 - 1, 3},
		{straight, api.Config{Delay: 3}, 1<<63 - 1, 5},
		{straight, api.Config{Delay: 20}, 9, 11},
		{straight, api.Config{Thresholds: []int64{9}}, 9, 3},
		{straight, api.Config{Thresholds: []int64{4, 11}}, 11, 4},
		{turned, api.Config{Delay: 20}, 9, 12},
		{turned, api.Config{Thresholds: []int64{4, 9}}, 9, 5},
	} {
		var asked []int
		got := Settled(row.order, row.c, counting(&asked))
		wantTable(t, got, api.Table{at(0, row.most), at(0, row.most), lost()})
		var want []int
		for range row.sweeps {
			for _, e := range row.order {
				want = append(want, e.Vertex)
			}
		}
		wantAsked(t, asked, want)
	}
	var asked []int
	wantTable(t, Settled(nil, api.Config{}, counting(&asked)), nil)
	wantAsked(t, asked, nil)
}

// made is a flow that tells by the table whether it is the first one or a narrower one, and counts what it is asked.
func made(first, later api.Table, asked *[]int) Flow {
	return func(t api.Table, v int) api.Env {
		*asked = append(*asked, v)
		if env.Same(t[0], at(0, 9)) {
			return first[v]
		}
		return later[v]
	}
}

// P22.1, P23.1: a narrower table that isn't held by itself isn't taken, and ends the narrowing; what comes by it is worked out for all vertices, whatever the earlier ones told. (What the edges of programs do to less is never more, so that a flow must be made for it.)
func TestNarrowerButNotHeld(t *testing.T) {
	wide, small, other := filled(4, at(0, 9)), filled(4, at(0, 5)), at(0, 7)
	for _, places := range [][]int{{0}, {1}, {2}, {3}, {0, 3}, {0, 1, 2, 3}} {
		later := small
		for _, v := range places {
			later = except(later, v, other)
		}
		for times := range api.MaxNarrow + 1 {
			var asked []int
			wantTable(t, Narrowed(wide, times, made(small, later, &asked)), wide)
			want := []int{0, 1, 2, 3, 0, 1, 2, 3}
			if times == 0 {
				want = nil
			}
			wantAsked(t, asked, want)
		}
	}
}

// P22.1, P23.1: a narrower table that is held is taken; the next time ends, as it is the same.
func TestNarrowerAndHeld(t *testing.T) {
	wide, small := filled(4, at(0, 9)), filled(4, at(0, 5))
	for times, rounds := range []int{0, 2, 3, 3} {
		var asked []int
		want := small
		if times == 0 {
			want = wide
		}
		wantTable(t, Narrowed(wide, times, made(small, small, &asked)), want)
		wantAsked(t, asked, slices.Repeat([]int{0, 1, 2, 3}, rounds))
	}
	// What comes is more than the table has: it is met with it, and is the same.
	var asked []int
	wantTable(t, Narrowed(wide, 3, made(filled(4, at(-3, 20)), small, &asked)), wide)
	wantAsked(t, asked, []int{0, 1, 2, 3})
}

// P22.1, P23.1: one vertex alone that is narrower makes another table.
func TestNarrowerAtOneVertex(t *testing.T) {
	wide := filled(4, at(0, 9))
	for _, v := range []int{1, 2, 3} {
		less := except(wide, v, at(2, 9))
		var asked []int
		wantTable(t, Narrowed(wide, 1, made(less, less, &asked)), less)
		wantAsked(t, asked, []int{0, 1, 2, 3, 0, 1, 2, 3})
	}
	for _, e := range []api.Env{at(1, 9), lost()} {
		less := except(wide, 0, e)
		var asked []int
		wantTable(t, Narrowed(wide, 1, made(less, less, &asked)), less)
	}
}
