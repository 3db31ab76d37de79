package cfg

import (
	"math/rand"
	"reflect"
	"slices"
	"strings"
	"sync"
	"testing"
	"unsafe"

	"winnow/api"
	"winnow/check"
)

const mark = -987654321

// roomy is a list with marked room behind it.
func roomy[T any](list []T, marked T) []T {
	long := append(slices.Clone(list), marked, marked, marked)
	return long[:len(list)]
}

func roomyProg(p api.Prog) api.Prog {
	return api.Prog{
		Nodes: roomy(p.Nodes, api.Node{Depth: mark}), Scalars: roomy(p.Scalars, "mark"), Arrays: roomy(p.Arrays, api.Array{Len: mark}),
		Symbols: roomy(p.Symbols, mark), Sites: roomy(p.Sites, mark), SiteOf: roomy(p.SiteOf, mark),
	}
}

// whole is a list with the room behind it.
func whole[T any](list []T) []T { return slices.Clone(list[:cap(list)]) }

func wholeProg(p api.Prog) api.Prog {
	return api.Prog{
		Nodes: whole(p.Nodes), Scalars: whole(p.Scalars), Arrays: whole(p.Arrays),
		Symbols: whole(p.Symbols), Sites: whole(p.Sites), SiteOf: whole(p.SiteOf),
	}
}

// overwrite fills a list and the room behind it.
func overwrite[T any](list []T, v T) {
	list = list[:cap(list)]
	for i := range list {
		list[i] = v
	}
}

func overwriteGraph(g api.Graph) {
	overwrite(g.Prog.Nodes, api.Node{Kind: mark})
	overwrite(g.Prog.Scalars, "other")
	overwrite(g.Prog.Arrays, api.Array{Len: mark})
	overwrite(g.Prog.Symbols, mark)
	overwrite(g.Prog.Sites, mark)
	overwrite(g.Prog.SiteOf, mark)
	overwrite(g.Edges, api.Edge{From: mark})
}

// span is where a list lies in memory, with the room behind it.
type span struct {
	what       string
	first, end uintptr
}

func spanOf[T any](what string, list []T) span {
	var one T
	first := uintptr(unsafe.Pointer(unsafe.SliceData(list)))
	return span{what, first, first + uintptr(cap(list))*unsafe.Sizeof(one)}
}

func spansOf(what string, g api.Graph) []span {
	p := g.Prog
	return []span{
		spanOf(what+"'s nodes", p.Nodes), spanOf(what+"'s scalars", p.Scalars), spanOf(what+"'s arrays", p.Arrays),
		spanOf(what+"'s symbols", p.Symbols), spanOf(what+"'s sites", p.Sites), spanOf(what+"'s sites of nodes", p.SiteOf),
		spanOf(what+"'s edges", g.Edges),
	}
}

// wantApart looks whether any two lists lie over one another.
func wantApart(t *testing.T, text string, spans []span) {
	t.Helper()
	for i, s := range spans {
		for _, u := range spans[:i] {
			if s.first < u.end && u.first < s.end {
				t.Fatalf("P8.4: %s: %s and %s share memory", text, s.what, u.what)
			}
		}
	}
}

// P8.4: what is handed in stays, with the room behind it, whatever is asked and whatever is done to the answers; and these share nothing.
func TestWhatIsHandedInStays(t *testing.T) {
	m := maker{rand.New(rand.NewSource(84))}
	for i := range 300 {
		text, made := m.program(i % 5)
		p := roomyProg(made)
		before := wholeProg(p)
		stays := func(what string) {
			t.Helper()
			if !reflect.DeepEqual(before, wholeProg(p)) {
				t.Fatalf("P8.4: %s has changed what it was handed: %s", what, text)
			}
		}
		g, _ := Lower(p)
		stays("Lower")
		for place := -1; place <= len(p.Nodes)+3; place++ {
			At(p, place)
		}
		stays("At")
		h, _ := Lower(p)
		again, _ := Lower(h.Prog)
		wantApart(t, text, slices.Concat(spansOf("p", api.Graph{Prog: p}), spansOf("a graph", g), spansOf("a second one", h), spansOf("one of that", again)))
		overwriteGraph(g)
		stays("who writes into an answer")
		if !reflect.DeepEqual(h, again) || !check.Same(h.Prog, p) {
			t.Fatalf("P8.4: %s: two graphs share memory", text)
		}
	}
}

// P8.4: a refusal leaves what it was handed as it was.
func TestWhatIsRefusedStays(t *testing.T) {
	made := mustText(t, everyKind)
	made.Symbols[2] = 7
	p := roomyProg(made)
	before := wholeProg(p)
	wantNone(t, "another symbol", p)
	if !reflect.DeepEqual(before, wholeProg(p)) {
		t.Error("P8.4: a refusal has changed what it was handed")
	}
}

// P8.4: a graph's names hold no text that they were cut from.
func TestNamesAreCopies(t *testing.T) {
	p := mustText(t, "var counter; array cells[3]; cells[counter] := counter;")
	text := strings.Repeat(" counter cells ", 9)
	for i, n := range p.Nodes {
		if at := strings.Index(text, n.Name); n.Name != "" {
			p.Nodes[i].Name = text[at : at+len(n.Name)]
		}
	}
	g, _ := Lower(p)
	first := uintptr(unsafe.Pointer(unsafe.StringData(text)))
	for i, n := range g.Prog.Nodes {
		if at := uintptr(unsafe.Pointer(unsafe.StringData(n.Name))); n.Name != "" && at >= first && at < first+uintptr(len(text)) {
			t.Errorf("P8.4: the name of the node %d lies in a text that was handed in", i)
		}
	}
}

// Calls at the same time have nothing to do with one another.
func TestCallsAtTheSameTime(t *testing.T) {
	p := mustText(t, everyKind)
	want, _ := Lower(p)
	var group sync.WaitGroup
	for range 8 {
		group.Go(func() {
			for range 50 {
				if g, code := Lower(p); code != api.OK || !reflect.DeepEqual(g, want) {
					t.Errorf("P8.1: Lower = %v, %v", g, code)
				}
				if node := At(p, 4); node != 1 {
					t.Errorf("P8.2: At(.., 4) = %d", node)
				}
			}
		})
	}
	group.Wait()
}
