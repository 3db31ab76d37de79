package wto

import (
	"math"
	"runtime/debug"
	"strconv"
	"strings"
	"testing"

	"winnow/api"
)

// arcsOf reads arcs that are written as in the chapter: 0-1 1-2.
func arcsOf(text string) []api.Arc {
	var arcs []api.Arc
	for _, word := range strings.Fields(text) {
		from, to, _ := strings.Cut(word, "-")
		f, _ := strconv.Atoi(from)
		t, _ := strconv.Atoi(to)
		arcs = append(arcs, api.Arc{From: f, To: t})
	}
	return arcs
}

// written is an order as the chapter writes it, with brackets around components; "?" where the depths can't be right.
func written(list []api.Elem) string {
	var text strings.Builder
	open := 0
	for i, e := range list {
		within := e.Depth
		if e.Head {
			within--
		}
		if within > open || within < 0 {
			return "?"
		}
		text.WriteString(strings.Repeat(")", open-within))
		if i > 0 {
			text.WriteString(" ")
		}
		if e.Head {
			text.WriteString("(")
		}
		text.WriteString(strconv.Itoa(e.Vertex))
		open = e.Depth
	}
	return text.String() + strings.Repeat(")", open)
}

func wantOrder(t *testing.T, promise string, n int, arcs string, root int, want string) {
	t.Helper()
	list, code := Order(n, arcsOf(arcs), root)
	if got := written(list); got != want || code != api.OK {
		t.Errorf("%s: Order(%d, %s, %d) = %s, %v, want %s", promise, n, arcs, root, got, code, want)
	}
}

func TestExamples(t *testing.T) {
	wantOrder(t, "P10.1", 4, "0-1 1-2 2-1 2-3", 0, "0 (1 2) 3")
	wantOrder(t, "P10.1", 8, "0-1 1-2 2-3 3-4 4-5 5-4 3-6 5-6 6-2 1-7 6-7", 0, "0 1 (2 3 (4 5) 6) 7")
	wantOrder(t, "P10.1", 1, "0-0", 0, "(0)")
	wantOrder(t, "P10.1", 1, "", 0, "0")
	wantOrder(t, "P10.1", 3, "1-2", 0, "0")
	wantOrder(t, "P10.1", 3, "0-1 1-2 2-0 2-1", 0, "(0 (1 2))")
	wantOrder(t, "P10.1", 3, "0-2 0-1", 0, "0 1 2")
}

// The elements themselves, field by field: a head is held by its own component.
func TestElements(t *testing.T) {
	for _, c := range []struct {
		n    int
		arcs string
		want []api.Elem
	}{
		{4, "0-1 1-2 2-1 2-3", []api.Elem{{Vertex: 0}, {Vertex: 1, Depth: 1, Head: true}, {Vertex: 2, Depth: 1}, {Vertex: 3}}},
		{1, "0-0", []api.Elem{{Vertex: 0, Depth: 1, Head: true}}},
		{1, "", []api.Elem{{Vertex: 0}}},
		{3, "0-1 1-2 2-0 2-1", []api.Elem{{Vertex: 0, Depth: 1, Head: true}, {Vertex: 1, Depth: 2, Head: true}, {Vertex: 2, Depth: 2}}},
	} {
		list, code := Order(c.n, arcsOf(c.arcs), 0)
		same := len(list) == len(c.want) && code == api.OK
		for i := range c.want {
			same = same && list[i] == c.want[i]
		}
		if !same {
			t.Errorf("P10.1: Order(%d, %s, 0) = %v, %v, want %v", c.n, c.arcs, list, code, c.want)
		}
	}
}

func TestNoGraph(t *testing.T) {
	for _, c := range []struct {
		n    int
		arcs string
		root int
	}{
		{0, "", 0}, {0, "", -1}, {0, "", 1}, {-1, "", 0}, {-1, "", -1}, {-1, "", -2}, {math.MinInt, "", 0}, {math.MinInt, "", math.MinInt}, {-5, "", -9},
		{3, "", -1}, {3, "", 3}, {3, "", 4}, {3, "", math.MaxInt}, {3, "", math.MinInt}, {math.MaxInt, "", math.MaxInt}, {math.MaxInt, "", -1},
		{3, "0-1 1-2", 3}, {0, "0-0", 0}, {-1, "0-0", 0},
	} {
		wantRefused(t, c.n, arcsOf(c.arcs), c.root)
	}
}

func wantRefused(t *testing.T, n int, arcs []api.Arc, root int) {
	t.Helper()
	if list, code := Order(n, arcs, root); list != nil || code != api.ErrRoot {
		t.Errorf("P10.1: Order(%d, %v, %d) = %v, %v, want none, ErrRoot", n, arcs, root, list, code)
	}
}

// An arc's end that is no vertex is refused at each place among arcs that are right, whether it is reached (by a right end that is), or not.
func TestArcsOfNoVertex(t *testing.T) {
	right := arcsOf("0-1 1-2 2-1 3-4")
	for _, none := range []int{-1, 5, 6, math.MaxInt, math.MinInt} {
		for v := range 5 {
			for at := range len(right) + 1 {
				for _, wrong := range []api.Arc{{From: none, To: v}, {From: v, To: none}, {From: none, To: none}} {
					arcs := append(append(append([]api.Arc(nil), right[:at]...), wrong), right[at:]...)
					wantRefused(t, 5, arcs, 0)
				}
			}
		}
	}
	if list, code := Order(5, right, 0); written(list) != "0 (1 2)" || code != api.OK {
		t.Errorf("P10.1: the right arcs alone: %v, %v", list, code)
	}
}

func TestEdgesOfNumbers(t *testing.T) {
	const great, last = math.MaxInt, math.MaxInt - 1
	for _, c := range []struct {
		n    int
		arcs []api.Arc
		root int
		want string
	}{
		{3, nil, 0, "0"}, {3, []api.Arc{}, 0, "0"}, {3, nil, 2, "2"}, {1, nil, 0, "0"},
		{great, nil, last, "9223372036854775806"},
		{great, nil, 0, "0"},
		{great, []api.Arc{{From: last, To: 0}, {From: 0, To: last}}, 0, "(0 9223372036854775806)"},
		{great, []api.Arc{{From: last, To: 0}, {From: 0, To: last}}, last, "(9223372036854775806 0)"},
		{great, []api.Arc{{From: 7, To: last}, {From: last, To: 1 << 40}, {From: 1 << 40, To: 7}, {From: 1 << 40, To: 1 << 32}, {From: 3, To: 7}}, 7, "(7 9223372036854775806 1099511627776) 4294967296"},
	} {
		list, code := Order(c.n, c.arcs, c.root)
		if got := written(list); got != c.want || code != api.OK {
			t.Errorf("P10.3: Order(%d, %v, %d) = %s, %v, want %s", c.n, c.arcs, c.root, got, code, c.want)
		}
	}
}

func TestShapes(t *testing.T) {
	for _, c := range []struct {
		what string
		n    int
		arcs string
		root int
		want string
	}{
		{"arcs that are alike", 3, "0-1 0-1 1-2 1-2 1-2 2-1 2-1", 0, "0 (1 2)"},
		{"arcs that are alike and lead forward", 3, "0-1 0-2 0-1 1-2 1-2", 0, "0 1 2"},
		{"an arc to itself at the root", 2, "0-0 0-1", 0, "(0) 1"},
		{"an arc to itself behind the root", 2, "0-1 1-1", 0, "0 (1)"},
		{"twice to itself", 1, "0-0 0-0", 0, "(0)"},
		{"an arc to itself inside a component", 3, "0-1 1-1 1-2 2-0", 0, "(0 (1) 2)"},
		{"an arc to itself at the end of a component", 3, "0-1 1-2 2-2 2-0", 0, "(0 1 (2))"},
		{"an arc to itself at the head of a component", 3, "0-1 1-2 2-0 0-0", 0, "(0 1 2)"},
		{"arcs in an order", 4, "0-1 0-2 0-3", 0, "0 3 2 1"},
		{"arcs the other way about", 4, "0-3 0-2 0-1", 0, "0 1 2 3"},
		{"a way about, the long one first", 3, "0-1 1-2 0-2", 0, "0 1 2"},
		{"a way about, the short one first", 3, "0-2 0-1 1-2", 0, "0 1 2"},
		{"two ways into a ring", 3, "0-1 0-2 1-2 2-1", 0, "0 (1 2)"},
		{"two ways into a ring, the other way about", 3, "0-2 0-1 1-2 2-1", 0, "0 (2 1)"},
		{"a ring, its head no root", 4, "0-1 1-2 2-3 3-1", 0, "0 (1 2 3)"},
		{"a ring, begun elsewhere", 3, "0-1 1-2 2-0", 2, "(2 0 1)"},
		{"two in one another", 3, "0-1 1-2 2-1 2-0", 0, "(0 (1 2))"},
		{"three in one another", 4, "0-1 1-2 2-3 3-2 3-1 3-0", 0, "(0 (1 (2 3)))"},
		{"four in one another, with a tail each", 8, "0-1 1-2 2-3 3-3 3-4 4-2 4-5 5-1 5-6 6-0 6-7", 0, "(0 (1 (2 (3) 4) 5) 6) 7"},
		{"two beside one another", 4, "0-1 1-0 1-2 2-3 3-2", 0, "(0 1) (2 3)"},
		{"two beside one another within one", 6, "0-1 1-2 2-1 2-3 3-4 4-3 4-5 5-0", 0, "(0 (1 2) (3 4) 5)"},
		{"two beside one another, reached from their head alone", 5, "0-1 1-2 2-1 0-3 3-4 4-3 2-0 4-0", 0, "(0 (3 4) (1 2))"},
		{"out of an inner one to the outer head", 4, "0-1 1-2 2-3 3-2 3-0", 0, "(0 1 (2 3))"},
		{"out of an inner head to the outer head", 3, "0-1 1-2 2-1 1-0", 0, "(0 (1 2))"},
		{"out of the innermost to the outermost head alone", 4, "0-1 1-2 2-3 3-2 2-1 3-0", 0, "(0 (1 (2 3)))"},
		{"into the middle of a component", 4, "0-1 1-2 2-3 3-1 0-2", 0, "0 (1 2 3)"},
		{"into the middle of a component, first", 4, "0-2 0-1 1-2 2-3 3-1", 0, "0 (2 3 1)"},
		{"what is behind a component", 5, "0-1 1-2 2-1 1-3 2-4 4-3", 0, "0 (1 2) 4 3"},
		{"what isn't reached", 7, "0-1 3-4 4-3 5-5 4-0 5-1 6-6 3-1", 0, "0 1"},
		{"what isn't reached, beside a ring", 5, "3-0 0-1 3-1 1-0 4-3 3-4", 1, "(1 0)"},
		{"all of three vertices", 3, "0-0 0-1 0-2 1-0 1-1 1-2 2-0 2-1 2-2", 0, "(0 (1 (2)))"},
	} {
		wantOrder(t, "P10.2: "+c.what, c.n, c.arcs, c.root, c.want)
	}
}

// The answer doesn't hang on how many vertices there are besides.
func TestMoreVerticesChangeNothing(t *testing.T) {
	const arcs = "0-1 1-2 2-3 3-4 4-5 5-4 3-6 5-6 6-2 1-7 6-7"
	for _, n := range []int{8, 9, 100, 1 << 31, 1 << 62, math.MaxInt} {
		wantOrder(t, "P10.3", n, arcs, 0, "0 1 (2 3 (4 5) 6) 7")
	}
}

// row has the arcs from each of n vertices to the next one.
func row(n int) []api.Arc {
	arcs := make([]api.Arc, 0, n)
	for i := range n - 1 {
		arcs = append(arcs, api.Arc{From: i, To: i + 1})
	}
	return arcs
}

// wantAscending looks whether an order is the vertices from 0 on, each with what is told of it.
func wantAscending(t *testing.T, what string, n int, arcs []api.Arc, want func(v int) (depth int, head bool)) {
	t.Helper()
	list, code := Order(n, arcs, 0)
	if len(list) != n || code != api.OK {
		t.Fatalf("P10.3: %s: %d elements, %v, want %d", what, len(list), code, n)
	}
	for v, e := range list {
		depth, head := want(v)
		if e != (api.Elem{Vertex: v, Depth: depth, Head: head}) {
			t.Fatalf("P10.3: %s: the element %d is %v, want the depth %d and the head %v", what, v, e, depth, head)
		}
	}
}

// Long rows: a pass over each would not end if a vertex' work hung on more than its arcs. There is little room for calls within calls: a row may be as long as what can be handed in.
func TestLongRows(t *testing.T) {
	defer debug.SetMaxStack(debug.SetMaxStack(4 << 20))
	const n = 300000
	wantAscending(t, "a row", n, row(n), func(int) (int, bool) { return 0, false })
	ring := append(row(n), api.Arc{From: n - 1, To: 0})
	wantAscending(t, "a ring", n, ring, func(v int) (int, bool) { return 1, v == 0 })
	pairs := row(n)
	for i := 0; i+1 < n; i += 2 {
		pairs = append(pairs, api.Arc{From: i + 1, To: i})
	}
	wantAscending(t, "pairs", n, pairs, func(v int) (int, bool) { return 1, v%2 == 0 })
	alone := row(n)
	for i := range n {
		alone = append(alone, api.Arc{From: i, To: i})
	}
	wantAscending(t, "each alone", n, alone, func(int) (int, bool) { return 1, true })
	backwards := row(n)
	for i := range len(backwards) / 2 {
		j := len(backwards) - 1 - i
		backwards[i], backwards[j] = backwards[j], backwards[i]
	}
	wantAscending(t, "a row from its end on", n, backwards, func(int) (int, bool) { return 0, false })
	var star []api.Arc
	for i := n - 1; i > 0; i-- {
		star = append(star, api.Arc{From: 0, To: i}, api.Arc{From: 0, To: i})
	}
	wantAscending(t, "a star", n, star, func(int) (int, bool) { return 0, false })
}

// Components in one another, as deep as there are vertices.
func TestDeepComponents(t *testing.T) {
	const n = 1500
	arcs := row(n)
	for i := range n - 1 {
		arcs = append(arcs, api.Arc{From: i + 1, To: i})
	}
	wantAscending(t, "there and back", n, arcs, func(v int) (int, bool) { return min(v+1, n-1), v < n-1 })
	back := row(n)
	for i := range n {
		back = append(back, api.Arc{From: n - 1, To: i})
	}
	wantAscending(t, "back from the end", n, back, func(v int) (int, bool) { return v + 1, true })
}

// What isn't reached is no work beyond the looking whether it is right.
func TestMuchThatIsNotReached(t *testing.T) {
	const n = 3000
	arcs := arcsOf("0-1 1-0")
	for i := 2; i < n; i++ {
		for j := 2; j < 100; j++ {
			arcs = append(arcs, api.Arc{From: i, To: j})
		}
		arcs = append(arcs, api.Arc{From: i, To: i - 2})
	}
	list, code := Order(n, arcs, 0)
	if got := written(list); got != "(0 1)" || code != api.OK {
		t.Errorf("P10.3: %s, %v, want (0 1)", got, code)
	}
}
