package wto

import (
	"math/rand"
	"slices"
	"testing"

	"winnow/api"
)

// item is a thing of the chapter's list: a vertex alone, or a component with what it holds.
type item struct {
	vertex int
	head   bool
	held   []item
}

// letters is the chapter's words once more, as they stand there: calls within calls, and a list to the front of which things are put.
type letters struct {
	arcs  []api.Arc
	marks map[int]int // 0: new; -1: done
	stack []int
	count int
}

func (l *letters) visit(v int, list *[]item) int {
	l.stack = append(l.stack, v)
	l.count++
	l.marks[v] = l.count
	h, loop := l.marks[v], false
	for _, a := range l.arcs {
		if a.From != v {
			continue
		}
		var m int
		switch w := a.To; {
		case l.marks[w] == 0:
			m = l.visit(w, list)
		case l.marks[w] == -1:
			continue
		default:
			m = l.marks[w]
		}
		if m <= h {
			h, loop = m, true
		}
	}
	if h == l.marks[v] {
		l.marks[v] = -1
		at := slices.Index(l.stack, v)
		taken := slices.Clone(l.stack[at+1:])
		l.stack = l.stack[:at]
		one := item{vertex: v}
		if loop {
			for _, w := range taken {
				l.marks[w] = 0
			}
			one = l.component(v)
		}
		*list = append([]item{one}, *list...)
	}
	return h
}

func (l *letters) component(v int) item {
	var own []item
	for _, a := range l.arcs {
		if a.From == v && l.marks[a.To] == 0 {
			l.visit(a.To, &own)
		}
	}
	return item{vertex: v, head: true, held: own}
}

// toldByTheLetter is the elements of the list behind Visit(root).
func toldByTheLetter(arcs []api.Arc, root int) []api.Elem {
	l := &letters{arcs: arcs, marks: map[int]int{}}
	var list []item
	l.visit(root, &list)
	return elements(list, 0)
}

func elements(list []item, depth int) []api.Elem {
	var all []api.Elem
	for _, i := range list {
		if !i.head {
			all = append(all, api.Elem{Vertex: i.vertex, Depth: depth})
			continue
		}
		all = append(all, api.Elem{Vertex: i.vertex, Depth: depth + 1, Head: true})
		all = append(all, elements(i.held, depth+1)...)
	}
	return all
}

// reached are the root and where an arc from what is reached leads: arcs are gone through until nothing is new.
func reached(arcs []api.Arc, root int) map[int]bool {
	found := map[int]bool{root: true}
	for more := true; more; {
		more = false
		for _, a := range arcs {
			if found[a.From] && !found[a.To] {
				found[a.To], more = true, true
			}
		}
	}
	return found
}

// componentEnd is where the component of the head at a place ends, as P10.2 says it.
func componentEnd(list []api.Elem, at int) int {
	d := list[at].Depth
	for i := at + 1; i < len(list); i++ {
		if list[i].Depth < d || list[i].Depth == d && list[i].Head {
			return i
		}
	}
	return len(list)
}

// wantFollows looks whether what P10.2 says holds of an order.
func wantFollows(t *testing.T, arcs []api.Arc, root int, list []api.Elem) {
	t.Helper()
	found := reached(arcs, root)
	place := map[int]int{}
	for i, e := range list {
		if _, twice := place[e.Vertex]; twice || !found[e.Vertex] {
			t.Fatalf("P10.2: %v from %d: %s: the vertex %d stands there twice, or isn't reached", arcs, root, written(list), e.Vertex)
		}
		place[e.Vertex] = i
	}
	if len(list) != len(found) {
		t.Fatalf("P10.2: %v from %d: %s: %d vertices, %d are reached", arcs, root, written(list), len(list), len(found))
	}
	holds := func(head, at int) bool {
		return list[head].Head && head <= at && at < componentEnd(list, head)
	}
	asked := map[int]bool{}
	for _, a := range arcs {
		if !found[a.From] {
			continue
		}
		from, to := place[a.From], place[a.To]
		if holds(to, from) {
			asked[to] = true
		} else if from >= to {
			t.Fatalf("P10.2: %v from %d: %s: the arc %v leads back to no head that holds it", arcs, root, written(list), a)
		}
	}
	for i, e := range list {
		if e.Head && !asked[i] {
			t.Fatalf("P10.2: %v from %d: %s: no arc leads to the head %d from its component", arcs, root, written(list), e.Vertex)
		}
		depth := 0
		for head := range list {
			if holds(head, i) {
				depth++
			}
		}
		if e.Depth != depth {
			t.Fatalf("P10.2: %v from %d: %s: %d components hold %v", arcs, root, written(list), depth, e)
		}
	}
}

func wantByTheLetter(t *testing.T, n int, arcs []api.Arc, root int) {
	t.Helper()
	list, code := Order(n, arcs, root)
	if want := toldByTheLetter(arcs, root); code != api.OK || !slices.Equal(list, want) {
		t.Fatalf("P10.1: Order(%d, %v, %d) = %s, %v, want %s", n, arcs, root, written(list), code, written(want))
	}
}

// all arcs of n vertices, in their order.
func all(n int) []api.Arc {
	var arcs []api.Arc
	for i := range n * n {
		arcs = append(arcs, api.Arc{From: i / n, To: i % n})
	}
	return arcs
}

// Every graph of at most three vertices, from each root, and every one of four vertices from the vertex 1; the arcs ascending and descending.
func TestAllSmallGraphs(t *testing.T) {
	for n := 1; n <= 4; n++ {
		every := all(n)
		for set := range 1 << len(every) {
			var arcs []api.Arc
			for i, a := range every {
				if set>>i&1 == 1 {
					arcs = append(arcs, a)
				}
			}
			for range 2 {
				for root := range n {
					if n == 4 && root != 1 {
						continue
					}
					wantByTheLetter(t, n, arcs, root)
					list, _ := Order(n, arcs, root)
					wantFollows(t, arcs, root, list)
				}
				slices.Reverse(arcs)
			}
		}
	}
}

// graph by chance: the vertices that it has names far apart, the arcs few or many, some alike, mostly short.
func byChance(m *rand.Rand) (n int, arcs []api.Arc, root int) {
	used := 1 + m.Intn(14)
	apart := 1 + m.Intn(3)*m.Intn(1<<40)
	for range m.Intn(1 + used*(1+m.Intn(4))) {
		from := m.Intn(used)
		to := m.Intn(used)
		if m.Intn(2) == 0 {
			to = min(used-1, max(0, from+m.Intn(4)-1))
		}
		arcs = append(arcs, api.Arc{From: from * apart, To: to * apart})
		if m.Intn(8) == 0 {
			arcs = append(arcs, arcs[m.Intn(len(arcs))])
		}
	}
	m.Shuffle(len(arcs), func(i, j int) { arcs[i], arcs[j] = arcs[j], arcs[i] })
	return used*apart + m.Intn(3), arcs, m.Intn(used) * apart
}

func TestGraphsByChance(t *testing.T) {
	m := rand.New(rand.NewSource(10))
	for range 30000 {
		n, arcs, root := byChance(m)
		wantByTheLetter(t, n, arcs, root)
		list, _ := Order(n, arcs, root)
		wantFollows(t, arcs, root, list)
	}
}

// The arcs' order between vertices plays no part as long as each vertex' own arcs keep theirs.
func TestOnlyTheOrderOfAVertexArcsCounts(t *testing.T) {
	m := rand.New(rand.NewSource(101))
	for range 3000 {
		n, arcs, root := byChance(m)
		sorted := slices.Clone(arcs)
		slices.SortStableFunc(sorted, func(a, b api.Arc) int { return a.From - b.From })
		one, _ := Order(n, arcs, root)
		two, _ := Order(n, sorted, root)
		if !slices.Equal(one, two) {
			t.Fatalf("P10.1: %v from %d: %s, sorted: %s", arcs, root, written(one), written(two))
		}
	}
}

// Anything that can be handed in is refused, or ordered by the letter.
func FuzzOrder(f *testing.F) {
	f.Add(4, 0, []byte{0, 1, 1, 2, 2, 1, 2, 3})
	f.Add(3, 0, []byte{0, 1, 1, 2, 2, 0, 2, 1})
	f.Add(0, 0, []byte{})
	f.Fuzz(func(t *testing.T, n, root int, ends []byte) {
		var arcs []api.Arc
		right := root >= 0 && root < n
		for i := 0; i+1 < min(len(ends), 60); i += 2 {
			a := api.Arc{From: int(int8(ends[i])), To: int(int8(ends[i+1]))}
			arcs = append(arcs, a)
			right = right && min(a.From, a.To) >= 0 && max(a.From, a.To) < n
		}
		if !right {
			wantRefused(t, n, arcs, root)
			return
		}
		wantByTheLetter(t, n, arcs, root)
		list, _ := Order(n, arcs, root)
		wantFollows(t, arcs, root, list)
	})
}
