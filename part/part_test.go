package part

import (
	"fmt"
	"math"
	"slices"
	"strings"
	"testing"

	"winnow/api"
	"winnow/cfg"
	"winnow/check"
)

// example is the chapter's program P. Its nodes: input 0, if 1, assignment 2, skip 3, while 4, assignment 5, exit 6; its edges: 0 to 1, the if's 1 and 2, 2 to 4, 3 to 4, the while's 5 and 6, 5 to 4.
const example = "var x; input x; if x < 0 { x := 1; } else { skip; } while x < 9 { x := x + 1; }"

// everything is a program that has each kind of edge, and each kind of node.
const everything = "var x; array a[2]; var y; x := -1; a[x] := 3 / y; input y; assert a[0] < 4 && !(x == y); skip; " +
	"if x < y || false { skip; } else { y := x % 2; } while x < 2 { x := x + 1; if y < 0 { } while y < 3 { input y; } }"

func mustText(t testing.TB, text string) api.Prog {
	t.Helper()
	p, err := check.Text(text)
	if err != nil {
		t.Fatalf("Text(%q) is refused: %v", text, err)
	}
	return p
}

func mustGraph(t testing.TB, p api.Prog) api.Graph {
	t.Helper()
	g, code := cfg.Lower(p)
	if code != api.OK {
		t.Fatalf("Lower is refused: %v", code)
	}
	return g
}

func mustSplit(t testing.TB, p api.Prog, c api.Config) api.Part {
	t.Helper()
	x, code := Split(p, c)
	if code != api.OK {
		t.Fatalf("P20.1: Split with %+v = %v", c, code)
	}
	return x
}

func hist(edges ...int) api.Token { return api.Token{Hist: edges} }

func loops(pairs ...int) api.Token {
	var t api.Token
	for i := 0; i+1 < len(pairs); i += 2 {
		t.Loops = append(t.Loops, api.Loop{Head: pairs[i], Count: pairs[i+1]})
	}
	return t
}

// both is a token with the decisions of one and the loops of another.
func both(h, l api.Token) api.Token { return api.Token{Hist: h.Hist, Loops: l.Loops} }

func merged() api.Token { return api.Token{Merged: true} }

// tell is a token's text: M for Merged, the decisions in square brackets, each loop as head*count.
func tell(t api.Token) string {
	var text strings.Builder
	if t.Merged {
		text.WriteString("M")
	}
	for _, edge := range t.Hist {
		fmt.Fprintf(&text, "[%d]", edge)
	}
	for _, l := range t.Loops {
		fmt.Fprintf(&text, "(%d*%d)", l.Head, l.Count)
	}
	return text.String()
}

// tellVerts is the vertices' text: each one's node and token.
func tellVerts(verts []api.Vertex) string {
	var words []string
	for _, v := range verts {
		words = append(words, fmt.Sprint(v.Node, tell(v.Token)))
	}
	return strings.Join(words, " ")
}

// tellLinks is the links' text: from, edge, to.
func tellLinks(links []api.Link) string {
	var words []string
	for _, l := range links {
		words = append(words, fmt.Sprintf("%d-%d-%d", l.From, l.Edge, l.To))
	}
	return strings.Join(words, " ")
}

// wantPart holds a part against its texts.
func wantPart(t *testing.T, text string, c api.Config, verts, links string, merged ...int) {
	t.Helper()
	x := mustSplit(t, mustText(t, text), c)
	if got := tellVerts(x.Verts); got != verts {
		t.Errorf("P20.1: Split(%q, %+v) has the vertices\n%s, want\n%s", text, c, got, verts)
	}
	if got := tellLinks(x.Links); got != links {
		t.Errorf("P20.1: Split(%q, %+v) has the links\n%s, want\n%s", text, c, got, links)
	}
	if !slices.Equal(x.Merged, merged) {
		t.Errorf("P20.1: Split(%q, %+v) has merged %v, want %v", text, c, x.Merged, merged)
	}
}

// The chapter's examples 1 to 4.
func TestExamplesOfSplit(t *testing.T) {
	wantPart(t, example, api.Config{Hist: 1, Cap: 6},
		"0 1 2[1] 3[2] 4[1] 4[2] 5[1] 6[1] 5[2] 6[2]",
		"0-0-1 1-1-2 1-2-3 2-3-4 3-4-5 4-5-6 4-6-7 5-5-8 5-6-9 6-7-4 8-7-5")
	wantPart(t, example, api.Config{Unroll: 2, Cap: 6},
		"0 1 2 3 4 5(4*1) 6 4(4*1) 5(4*2) 4(4*2)",
		"0-0-1 1-1-2 1-2-3 2-3-4 3-4-4 4-5-5 4-6-6 5-7-7 7-5-8 7-6-6 8-7-9 9-5-8 9-6-6")
	wantPart(t, example, api.Config{Hist: 1, Unroll: 2, Cap: 3},
		"0 1 2[1] 3[2] 4M 5M 6M",
		"0-0-1 1-1-2 1-2-3 2-3-4 3-4-4 4-5-5 4-6-6 5-7-4", 4)
	wantPart(t, example, api.Config{Cap: 6},
		"0 1 2 3 4 5 6",
		"0-0-1 1-1-2 1-2-3 2-3-4 3-4-4 4-5-5 4-6-6 5-7-4")
	wantPart(t, example, api.Config{Cap: 1},
		"0 1 2 3 4 5 6",
		"0-0-1 1-1-2 1-2-3 2-3-4 3-4-4 4-5-5 4-6-6 5-7-4")
}

// The chapter's example 3: the while's node would have six tokens, and at the fourth it is merged.
func TestExampleOfMerging(t *testing.T) {
	at := func(most int) string {
		var words []string
		for _, v := range mustSplit(t, mustText(t, example), api.Config{Hist: 1, Unroll: 2, Cap: most}).Verts {
			if v.Node == 4 {
				words = append(words, tell(v.Token))
			}
		}
		return strings.Join(words, " ")
	}
	if got := at(6); got != "[1] [2] [1](4*1) [2](4*1) [1](4*2) [2](4*2)" {
		t.Errorf("P20.1: with Cap 6 the while's node has %s", got)
	}
	for most := 1; most < 6; most++ {
		if got := at(most); got != "M" {
			t.Errorf("P20.1: with Cap %d the while's node has %s", most, got)
		}
	}
}

// The chapter's example 5.
func TestExamplesOfFollowAndStep(t *testing.T) {
	p := mustText(t, example)
	for _, c := range []api.Config{{Cap: 1}, {Hist: 1, Cap: 6}, {Hist: 1, Unroll: 2, Cap: 3}} {
		wantVertex(t, p, c, nil, 0)
		wantNoVertex(t, p, c, []int{1}, api.ErrArg)
		wantNoVertex(t, p, c, []int{0, 3}, api.ErrArg)
		for edge := range mustGraph(t, p).Edges {
			wantStep(t, p, c, merged(), edge, merged())
		}
	}
}

// P20.1: programs without a step have one vertex, and no link.
func TestNoStep(t *testing.T) {
	for _, text := range []string{"", "var x;", "array a[3]; var x;"} {
		for _, c := range corners() {
			wantPart(t, text, c, "0", "")
			wantVertex(t, mustText(t, text), c, nil, 0)
			wantNoVertex(t, mustText(t, text), c, []int{0}, api.ErrArg)
			wantNoStep(t, mustText(t, text), c, api.Token{}, 0, api.ErrArg)
		}
	}
	wantPart(t, "skip;", api.Config{Cap: 1}, "0 1", "0-0-1")
	if x, code := Split(api.Prog{}, api.Config{Cap: 1}); code != api.OK || tellVerts(x.Verts) != "0" || len(x.Links)+len(x.Merged) != 0 {
		t.Errorf("P20.1: Split of the zero Prog = %v, %v", x, code)
	}
}

// P20.1: empty blocks: both edges of an if lead to one node, and a while's to itself.
func TestEmptyBlocks(t *testing.T) {
	text := "var x; if x < 1 { } else { } while x < 2 { }"
	wantPart(t, text, api.Config{Cap: 1}, "0 1 2", "0-0-1 0-1-1 1-2-1 1-3-2")
	wantPart(t, text, api.Config{Hist: 3, Cap: 2}, "0 1[0] 1[1] 2[0] 2[1]", "0-0-1 0-1-2 1-2-1 1-3-3 2-2-2 2-3-4")
	wantPart(t, text, api.Config{Unroll: 1, Cap: 2}, "0 1 1(1*1) 2", "0-0-1 0-1-1 1-2-2 1-3-3 2-2-2 2-3-3")
	wantPart(t, text, api.Config{Unroll: 3, Cap: 4}, "0 1 1(1*1) 2 1(1*2) 1(1*3)", "0-0-1 0-1-1 1-2-2 1-3-3 2-2-4 2-3-3 4-2-5 4-3-3 5-2-5 5-3-3")
	wantPart(t, text, api.Config{Unroll: 3, Cap: 3}, "0 1M 2M", "0-0-1 0-1-1 1-2-1 1-3-2", 1)
}

// P20.1: a loop in a loop: the inner one's rounds are told apart within the outer one's, and forgotten behind it.
func TestLoopInLoop(t *testing.T) {
	text := "var x; while x < 1 { while x < 2 { skip; } }"
	wantPart(t, text, api.Config{Cap: 6}, "0 1 3 2", "0-0-1 0-1-2 1-2-3 1-3-0 3-4-1")
	wantPart(t, text, api.Config{Unroll: 1, Cap: 2},
		"0 1(0*1) 3 2(0*1)(1*1) 0(0*1) 1(0*1)(1*1)",
		"0-0-1 0-1-2 1-2-3 1-3-4 3-4-5 4-0-1 4-1-2 5-2-3 5-3-4")
	wantPart(t, text, api.Config{Unroll: 1, Cap: 1}, "0M 1M 3M 2M", "0-0-1 0-1-2 1-2-3 1-3-0 3-4-1", 0)
}

// P20.1: a node whose tokens are just Cap, and one more.
func TestJustCap(t *testing.T) {
	text := "var x; if x < 0 { skip; } else { skip; } if x < 1 { skip; } else { skip; }"
	whole := "0 1[0] 2[1] 3[0] 3[1] 4[0][4] 5[0][5] 4[1][4] 5[1][5] 6[0][4] 6[0][5] 6[1][4] 6[1][5]"
	links := "0-0-1 0-1-2 1-2-3 2-3-4 3-4-5 3-5-6 4-4-7 4-5-8 5-6-9 6-7-10 7-6-11 8-7-12"
	for most := 4; most <= 6; most++ {
		wantPart(t, text, api.Config{Hist: 2, Cap: most}, whole, links)
	}
	for most := 2; most <= 3; most++ {
		wantPart(t, text, api.Config{Hist: 2, Cap: most},
			"0 1[0] 2[1] 3[0] 3[1] 4[0][4] 5[0][5] 4[1][4] 5[1][5] 6M",
			"0-0-1 0-1-2 1-2-3 2-3-4 3-4-5 3-5-6 4-4-7 4-5-8 5-6-9 6-7-9 7-6-9 8-7-9", 6)
	}
	wantPart(t, text, api.Config{Hist: 2, Cap: 1}, "0 1[0] 2[1] 3M 4M 5M 6M", "0-0-1 0-1-2 1-2-3 2-3-3 3-4-4 3-5-5 4-6-6 5-7-6", 3)
}

// P20.1: node 0 is merged: the first vertex is Merged, and so are all behind it.
func TestNodeZeroMerged(t *testing.T) {
	text := "var x; while x < 9 { x := x + 1; }"
	wantPart(t, text, api.Config{Unroll: 3, Cap: 4}, "0 1(0*1) 2 0(0*1) 1(0*2) 0(0*2) 1(0*3) 0(0*3)",
		"0-0-1 0-1-2 1-2-3 3-0-4 3-1-2 4-2-5 5-0-6 5-1-2 6-2-7 7-0-6 7-1-2")
	for most := 1; most <= 3; most++ {
		wantPart(t, text, api.Config{Unroll: 3, Cap: most}, "0M 1M 2M", "0-0-1 0-1-2 1-2-0", 0)
	}
	wantPart(t, text, api.Config{Hist: 3, Cap: 1}, "0 1 2", "0-0-1 0-1-2 1-2-0")
}

// P20.1: three findings are broken off, by the nodes 6, 8 and 4 in that order; Merged is rising.
func TestSeveralFindings(t *testing.T) {
	text := "var x; if x < 0 { skip; skip; skip; while x < 1 { skip; } } else { while x < 2 { skip; } }"
	wantPart(t, text, api.Config{Unroll: 1, Cap: 1},
		"0 1 6M 2 7M 8M 3 4M 5M",
		"0-0-1 0-1-2 1-2-3 2-8-4 2-9-5 3-3-6 4-10-2 6-4-7 7-5-8 7-6-5 8-7-7", 4, 6, 8)
	var order []int
	words := newWords(t, mustText(t, text), api.Config{Unroll: 1, Cap: 1})
	words.make(func(node int) { order = append(order, node) })
	if !slices.Equal(order, []int{6, 8, 4}) {
		t.Errorf("the findings are broken off by %v", order)
	}
}

// P20.1: behind a merged node {Merged} stays, also at nodes that aren't merged; paths that went elsewhere keep their tokens there.
func TestBehindMergedNodes(t *testing.T) {
	text := "var x; if x < 0 { while x < 1 { } } skip;"
	wantPart(t, text, api.Config{Hist: 1, Unroll: 2, Cap: 2}, "0 1M 2[1] 2M 3[1] 3M", "0-0-1 0-1-2 1-2-1 1-3-3 2-4-4 3-4-5", 1)
	wantPart(t, text, api.Config{Hist: 1, Unroll: 1, Cap: 1}, "0 1M 2M 3M", "0-0-1 0-1-2 1-2-1 1-3-2 2-4-3", 1, 2)
	wantPart(t, text, api.Config{Hist: 1, Unroll: 2, Cap: 3}, "0 1[0] 2[1] 1[0](1*1) 2[0] 3[1] 1[0](1*2) 3[0]",
		"0-0-1 0-1-2 1-2-3 1-3-4 2-4-5 3-2-6 3-3-4 4-4-7 6-2-6 6-3-4")
}

// P20.1: decisions beyond Hist aren't kept, those of an if in a loop neither.
func TestHistInLoop(t *testing.T) {
	text := "var x; while x < 1 { if x < 0 { } else { } }"
	wantPart(t, text, api.Config{Hist: 1, Cap: 3}, "0 1 2 0[2] 0[3] 1[2] 2[2] 1[3] 2[3]",
		"0-0-1 0-1-2 1-2-3 1-3-4 3-0-5 3-1-6 4-0-7 4-1-8 5-2-3 5-3-3 7-2-4 7-3-4")
	wantPart(t, text, api.Config{Hist: 1, Cap: 2}, "0M 1M 2M", "0-0-1 0-1-2 1-2-0 1-3-0", 0)
}

// wantStep holds an answer of Step.
func wantStep(t *testing.T, p api.Prog, c api.Config, token api.Token, edge int, want api.Token) {
	t.Helper()
	got, code := Step(p, c, token, edge)
	if code != api.OK || !alike(got, want) {
		t.Errorf("P20.2: Step(%+v, %+v, %d) = %+v, %v, want %+v", c, token, edge, got, code, want)
	}
}

// wantNoStep holds a refusal of Step.
func wantNoStep(t *testing.T, p api.Prog, c api.Config, token api.Token, edge int, want api.Errno) {
	t.Helper()
	got, code := Step(p, c, token, edge)
	if code != want || !alike(got, api.Token{}) {
		t.Errorf("P20.2: Step(%+v, %+v, %d) = %+v, %v, want %v", c, token, edge, got, code, want)
	}
}

// P20.2: each rule, of the chapter's program: the if's edges are 1 and 2, the while's 5 and 6, its node 4.
func TestStep(t *testing.T) {
	p := mustText(t, example)
	some := both(hist(7, 8), loops(9, 3, 4, 2))
	for _, x := range []struct {
		hist, unroll int
		token        api.Token
		edge         int
		want         api.Token
	}{
		{3, 3, api.Token{}, 0, api.Token{}},
		{3, 3, some, 0, some},
		{3, 3, some, 3, some},
		{3, 3, some, 4, some},
		{3, 3, some, 7, some},

		{1, 0, api.Token{}, 1, hist(1)},
		{1, 0, api.Token{}, 2, hist(2)},
		{0, 3, api.Token{}, 1, api.Token{}},
		{0, 3, api.Token{}, 2, api.Token{}},
		{3, 3, some, 1, both(hist(7, 8, 1), some)},
		{3, 3, some, 2, both(hist(7, 8, 2), some)},
		{2, 3, some, 1, some},
		{1, 3, some, 2, some},
		{3, 0, hist(1, 1, 1), 1, hist(1, 1, 1)},
		{3, 0, hist(-1), 2, hist(-1, 2)},
		{3, 0, hist(math.MaxInt, math.MinInt, 1, 1, 1), 2, hist(math.MaxInt, math.MinInt, 1, 1, 1)},

		{0, 1, api.Token{}, 5, loops(4, 1)},
		{0, 3, hist(1), 5, both(hist(1), loops(4, 1))},
		{0, 1, loops(4, 1), 5, loops(4, 1)},
		{0, 2, loops(4, 1), 5, loops(4, 2)},
		{0, 3, loops(4, 1), 5, loops(4, 2)},
		{0, 3, loops(4, 2), 5, loops(4, 3)},
		{0, 3, loops(4, 3), 5, loops(4, 3)},
		{0, 3, loops(4, 4), 5, loops(4, 3)},
		{0, 1, loops(4, 9), 5, loops(4, 1)},
		{0, 2, loops(4, math.MaxInt), 5, loops(4, 2)},
		{0, 2, loops(4, math.MaxInt-1), 5, loops(4, 2)},
		{0, 2, loops(4, math.MinInt), 5, loops(4, math.MinInt+1)},
		{0, 1, loops(4, 0), 5, loops(4, 1)},
		{0, 3, loops(4, 0), 5, loops(4, 1)},
		{0, 3, loops(4, -1), 5, loops(4, 0)},
		{0, 3, loops(5, 1), 5, loops(5, 1, 4, 1)},
		{0, 3, loops(4, 1, 5, 1), 5, loops(4, 1, 5, 1, 4, 1)},
		{0, 3, loops(-4, 2), 5, loops(-4, 2, 4, 1)},
		{0, 3, loops(4, 1, 4, 1), 5, loops(4, 1, 4, 2)},
		{0, 3, some, 5, both(some, loops(9, 3, 4, 3))},
		{0, 2, some, 5, both(some, loops(9, 3, 4, 2))},
		{0, 0, api.Token{}, 5, api.Token{}},
		{0, 0, some, 5, some},
		{3, 0, loops(4, math.MaxInt), 5, loops(4, math.MaxInt)},

		{0, 3, api.Token{}, 6, api.Token{}},
		{0, 3, loops(4, 1), 6, api.Token{}},
		{0, 0, loops(4, 1), 6, api.Token{}},
		{0, 1, loops(4, math.MaxInt), 6, api.Token{}},
		{0, 3, loops(5, 1), 6, loops(5, 1)},
		{0, 3, loops(4, 1, 5, 1), 6, loops(4, 1, 5, 1)},
		{0, 3, loops(4, 1, 4, 2), 6, loops(4, 1)},
		{0, 3, some, 6, both(some, loops(9, 3))},
		{3, 3, hist(1), 6, hist(1)},
	} {
		wantStep(t, p, api.Config{Hist: x.hist, Unroll: x.unroll, Cap: 1}, x.token, x.edge, x.want)
	}
}

// manyTokens are tokens of all sorts for a program whose heads are told.
func manyTokens(heads ...int) []api.Token {
	histories := []api.Token{{}, hist(1), hist(3, 2), hist(0, 1, 2), hist(1, 1, 1, 1), hist(-1, math.MaxInt, math.MinInt, 4, 5, 6, 7)}
	rounds := []api.Token{{}, loops(-1, 1), loops(math.MaxInt, math.MinInt)}
	for _, head := range heads {
		for _, count := range []int{math.MinInt, -1, 0, 1, 2, 3, 4, math.MaxInt - 1, math.MaxInt} {
			rounds = append(rounds, loops(head, count), loops(99, 1, head, count), loops(head, count, 99, 1), loops(head, 1, head, count))
		}
	}
	list := []api.Token{merged(), {Hist: []int{}, Loops: []api.Loop{}}}
	for _, h := range histories {
		for _, r := range rounds {
			token := both(h, r)
			list = append(list, token)
			token.Merged = true
			list = append(list, token)
		}
	}
	return list
}

// P20.2: every kind of edge, both senses, tokens of all sorts, all Hists and Unrolls, held against the chapter's words.
func TestStepOfEveryEdge(t *testing.T) {
	p := mustText(t, everything)
	edges := mustGraph(t, p).Edges
	kinds := map[string]int{}
	var heads []int
	for _, e := range edges {
		kinds[fmt.Sprint(e.Op, e.Sense, e.Loop)]++
		if e.Loop && e.Sense {
			heads = append(heads, e.From)
		}
	}
	if len(kinds) != 9 || len(heads) != 2 {
		t.Fatalf("the program hasn't every kind of edge: %v", kinds)
	}
	tokens := manyTokens(heads...)
	for h := 0; h <= api.MaxHist; h++ {
		for u := 0; u <= api.MaxUnroll; u++ {
			c := api.Config{Hist: h, Unroll: u, Cap: 1 + (h+u)%api.MaxCap}
			for edge, e := range edges {
				for i, token := range tokens {
					// Each pair of an edge and a token comes up with some of the configurations; EAssumes with all.
					if e.Op == api.EAssume || (i+edge)%16 == 4*h+u {
						wantStep(t, p, c, token, edge, behind(e, edge, c, token))
					}
				}
			}
		}
	}
}

// P20.2: what isn't asked of a configuration changes nothing: Cap, and all fields that other layers use.
func TestStepDoesntMerge(t *testing.T) {
	p := mustText(t, "var x; while x < 9 { x := x + 1; }")
	for _, c := range []api.Config{{Unroll: 2, Cap: 1}, {Unroll: 2, Cap: 6, Delay: 6, Narrow: 3, Rounds: 3, Thresholds: []int64{1}, Fuel: 9, Tries: 4}} {
		wantStep(t, p, c, api.Token{}, 0, loops(0, 1))
		wantStep(t, p, c, loops(0, 1), 2, loops(0, 1))
		wantStep(t, p, c, loops(0, 1), 0, loops(0, 2))
		wantStep(t, p, c, loops(0, 2), 1, api.Token{})
	}
}

// P20.2: edges that are none.
func TestNoEdge(t *testing.T) {
	for _, text := range []string{"", "skip;", example, everything} {
		p := mustText(t, text)
		number := len(mustGraph(t, p).Edges)
		for _, token := range []api.Token{{}, merged(), {Merged: true, Hist: []int{1}}, hist(1), loops(4, 1)} {
			for _, edge := range []int{-1, number, number + 1, -number, math.MinInt, math.MaxInt, math.MinInt + 1, 1 << 32} {
				if edge != 0 || number == 0 {
					wantNoStep(t, p, api.Config{Hist: 3, Unroll: 3, Cap: 6}, token, edge, api.ErrArg)
				}
			}
			if number > 0 {
				if _, code := Step(p, api.Config{Cap: 1}, token, number-1); code != api.OK {
					t.Errorf("P20.2: Step along the last edge = %v", code)
				}
			}
		}
	}
}
