package config

import (
	"math"
	"math/big"
	"strings"
	"testing"

	"winnow/api"
	"winnow/check"
)

func mustText(t testing.TB, text string) api.Prog {
	t.Helper()
	p, err := check.Text(text)
	if err != nil {
		t.Fatalf("Text(%q) is refused: %v", text, err)
	}
	return p
}

// sizes are what the formula asks of a program: its graph's nodes and edges, its variables, its sites.
type sizes struct{ nodes, edges, variables, sites int64 }

// sizesOf counts in the tree: a point ahead of each step and the exit; an edge for each step, two for a condition.
func sizesOf(p api.Prog) sizes {
	s := sizes{nodes: 1}
	for _, n := range p.Nodes {
		switch n.Kind {
		case api.KVar, api.KArray:
			s.variables++
		case api.KIf, api.KWhile:
			s.nodes++
			s.edges += 2
		case api.KAssign, api.KStore, api.KInput, api.KAssert, api.KSkip:
			s.nodes++
			s.edges++
		}
		if n.Kind == api.KStore || n.Kind == api.KLoad || n.Kind == api.KAssert || n.Op == api.OpDiv || n.Op == api.OpRem {
			s.sites++
		}
	}
	return s
}

func sum(numbers ...*big.Int) *big.Int {
	total := new(big.Int)
	for _, v := range numbers {
		total.Add(total, v)
	}
	return total
}

func product(numbers ...*big.Int) *big.Int {
	total := big.NewInt(1)
	for _, v := range numbers {
		total.Mul(total, v)
	}
	return total
}

// formula is P19.2's, each name as it stands there.
type formula struct{ V, L, K, W, F, whole *big.Int }

func formulaOf(s sizes, c api.Config) formula {
	whole := func(v int) *big.Int { return big.NewInt(int64(v)) }
	N, E, n, S := big.NewInt(s.nodes), big.NewInt(s.edges), big.NewInt(s.variables), big.NewInt(s.sites)
	t := whole(len(c.Thresholds))
	var f formula
	f.V = product(N, whole(c.Cap))
	f.L = product(E, whole(c.Cap))
	f.K = sum(product(n, sum(product(whole(2), sum(t, whole(3))), whole(1))), whole(1))
	f.W = sum(product(whole(2), f.V, sum(whole(c.Delay), f.K)), whole(2))
	f.F = product(f.L, sum(f.W, product(whole(2), whole(c.Narrow))))
	f.whole = product(f.F, sum(whole(1), product(whole(3), S, whole(c.Rounds))))
	return f
}

// wantBound holds a bound against the number that is wanted.
func wantBound(t *testing.T, text string, c api.Config, wanted uint64) {
	t.Helper()
	if got, code := Bound(mustText(t, text), c); got != wanted || code != api.OK {
		t.Errorf("P19.2: Bound(%q, %+v) = %d, %v, want %d", text, c, got, code, wanted)
	}
}

// wantFormula holds a bound against the formula.
func wantFormula(t *testing.T, p api.Prog, c api.Config) uint64 {
	t.Helper()
	wanted := formulaOf(sizesOf(p), c).whole
	got, code := Bound(p, c)
	if !wanted.IsUint64() || got != wanted.Uint64() || code != api.OK {
		t.Errorf("P19.2: Bound of %+v with %+v = %d, %v, want %v", sizesOf(p), c, got, code, wanted)
	}
	return got
}

func wantNoBound(t *testing.T, p api.Prog, c api.Config, code api.Errno) {
	t.Helper()
	if got, told := Bound(p, c); got != 0 || told != code {
		t.Errorf("P19.2: Bound(%v, %+v) = %d, %v, want 0, %v", p, c, got, told, code)
	}
}

// everything has all kinds of statements, and sites of each kind.
const everything = "var x; array a[2]; var y; x := 1 / x; a[x] := a[1 % x]; input x; assert a[x] > 0; skip;" +
	"if a[0] == 1 { skip; } else { x := 3; } if x < y { } while x / 2 > 3 && a[1] < 4 { while true { x := x - 1; } }"

// names are so many declarations, of avar, bvar and so on.
func names(word, behind string, number int) string {
	var text strings.Builder
	for i := range number {
		text.WriteString(word + " " + string(rune('a'+i)) + word + behind + "; ")
	}
	return text.String()
}

// variables are as many as there may be; asserts are as many sites, and skips fill both up to as many nodes.
func variables() string {
	return names("var", "", api.MaxScalars) + names("array", "[16]", api.MaxArrays)
}

func asserts() string { return strings.Repeat("assert true; ", api.MaxSites) }

func skips() string {
	return strings.Repeat("skip; ", api.MaxNodes-api.MaxScalars-api.MaxArrays-2*api.MaxSites)
}

// programs are of each shape that the formula tells apart.
func programs() []string {
	return []string{
		// Without a step.
		"", "var x;", "array a[3];", "var x; array a[2]; var y;", variables(),
		// Without scalars and arrays; without sites.
		"skip;", "skip; skip;", "assert true;", "assert 1 / 0 == 0;", "if true { skip; }", "var x; input x; x := x + 1;",
		// Both kinds of if, and loops.
		"if true { }", "if true { } else { }", "if true { skip; } else { assert false; }", "while true { }", "while true { skip; while false { } }",
		"var x; assert x < 1;", "var x; while x < 3 { x := x + 1; } assert x == 3;", "array a[4]; var i; while i < 4 { a[i] := i; i := i + 1; }",
		everything,
		// At the limits: nodes, sites, all of them; a condition is three nodes and two edges.
		strings.Repeat("skip; ", api.MaxNodes), strings.Repeat("if true { } ", api.MaxNodes/3), strings.Repeat("while true { } ", api.MaxNodes/3),
		asserts(), variables() + asserts(), variables() + asserts() + skips(),
		variables() + strings.Repeat("avar := aarray[0]; ", api.MaxSites), variables() + strings.Repeat("aarray[0] := 1; ", api.MaxSites),
		"var x; x := " + strings.Repeat("x / ", api.MaxSites/2) + strings.Repeat("x % ", api.MaxSites/2) + "x;",
	}
}

// The chapter's examples of Bound.
func TestExamplesOfBound(t *testing.T) {
	wantBound(t, "skip;", api.Config{Cap: 1}, 6)
	wantBound(t, "var x; assert x < 1;", api.Config{Cap: 2, Rounds: 1}, 528)
	for _, r := range []struct {
		text  string
		c     api.Config
		sizes sizes
		wants [6]int64
	}{
		{"skip;", api.Config{Cap: 1}, sizes{2, 1, 0, 0}, [6]int64{2, 1, 1, 6, 6, 6}},
		{"var x; assert x < 1;", api.Config{Cap: 2, Rounds: 1}, sizes{2, 1, 1, 1}, [6]int64{4, 2, 8, 66, 132, 528}},
	} {
		if s := sizesOf(mustText(t, r.text)); s != r.sizes {
			t.Errorf("%q has the sizes %+v, want %+v", r.text, s, r.sizes)
		}
		f := formulaOf(r.sizes, r.c)
		for i, got := range []*big.Int{f.V, f.L, f.K, f.W, f.F, f.whole} {
			if got.Cmp(big.NewInt(r.wants[i])) != 0 {
				t.Errorf("the formula's number %d of %q is %v, want %d", i, r.text, got, r.wants[i])
			}
		}
	}
}

// P19.2: bounds that were reckoned by hand, one field after the other.
func TestBoundsByHand(t *testing.T) {
	const loop = "var x; while x < 3 { x := x + 1; } assert x == 3;" // 4 nodes, 4 edges, a variable, a site
	for _, r := range []struct {
		c      api.Config
		wanted uint64
	}{
		{api.Config{Cap: 1}, 4 * 66},
		{api.Config{Cap: 2}, 8 * 130},
		{api.Config{Cap: 1, Delay: 2}, 4 * 82},
		{api.Config{Cap: 1, Narrow: 3}, 4 * 72},
		{api.Config{Cap: 1, Rounds: 3}, 4 * 66 * 10},
		{api.Config{Cap: 1, Thresholds: long(5)}, 4 * 82},
		{api.Config{Cap: 1, Hist: 3, Unroll: 3, Fuel: 5000, Tries: 4}, 4 * 66},
		{api.Config{Cap: 2, Delay: 1, Narrow: 2, Rounds: 1, Thresholds: long(0, 9)}, 8 * (2*8*13 + 2 + 4) * 4},
	} {
		wantBound(t, loop, r.c, r.wanted)
	}
	wantBound(t, "", greatest(), 0)
	// With all limits at once: 12 asserts and 265 skips are 278 nodes and 277 edges.
	verts, links := uint64(278*6), uint64(277*6)
	wantBound(t, variables()+asserts()+skips(), greatest(), links*(2*verts*(6+11*19+1)+2+6)*109)
}

// P19.2: programs of each shape, with every field of the configuration at its least and its greatest number.
func TestEndsOfAllFields(t *testing.T) {
	most := map[string]int64{}
	for _, text := range programs() {
		p := mustText(t, text)
		s := sizesOf(p)
		most["variables"], most["sites"] = max(most["variables"], s.variables), max(most["sites"], s.sites)
		most["nodes"] = max(most["nodes"], int64(len(p.Nodes)))
		for _, c := range ends() {
			wantFormula(t, p, c)
		}
		for _, c := range right() {
			wantFormula(t, p, c)
		}
	}
	if most["variables"] != api.MaxScalars+api.MaxArrays || most["sites"] != api.MaxSites || most["nodes"] != api.MaxNodes {
		t.Errorf("the programs don't go to the limits: %v", most)
	}
}

// P19.2: ErrPut comes ahead of what is wrong with the configuration.
func TestProgsThatArentGood(t *testing.T) {
	spoil := map[string]func(p *api.Prog){
		"nothing but nodes":  func(p *api.Prog) { *p = api.Prog{Nodes: p.Nodes} },
		"no nodes":           func(p *api.Prog) { p.Nodes = nil },
		"a node less":        func(p *api.Prog) { p.Nodes = p.Nodes[:len(p.Nodes)-1] },
		"too many nodes":     func(p *api.Prog) { p.Nodes = make([]api.Node, 1000) },
		"another scalar":     func(p *api.Prog) { p.Scalars[0] = "z" },
		"no scalar":          func(p *api.Prog) { p.Scalars = nil },
		"a scalar more":      func(p *api.Prog) { p.Scalars = append(p.Scalars, "z") },
		"an array's length":  func(p *api.Prog) { p.Arrays[0].Len = 3 },
		"an array more":      func(p *api.Prog) { p.Arrays = append(p.Arrays, api.Array{Name: "b", Len: 1}) },
		"no symbols":         func(p *api.Prog) { p.Symbols = nil },
		"a site less":        func(p *api.Prog) { p.Sites = p.Sites[1:] },
		"no sites of nodes":  func(p *api.Prog) { p.SiteOf = nil },
		"no kind":            func(p *api.Prog) { p.Nodes[4].Kind = 99 },
		"a depth":            func(p *api.Prog) { p.Nodes[3].Depth = math.MinInt },
		"a statement's name": func(p *api.Prog) { p.Nodes[3].Name = "q" },
	}
	progs := []api.Prog{{Scalars: []string{"x"}}, {Sites: []int{0}}, {Nodes: make([]api.Node, 1)}}
	for what, change := range spoil {
		p := mustText(t, everything)
		change(&p)
		if check.Good(p) {
			t.Fatalf("%s: the Prog is still good", what)
		}
		progs = append(progs, p)
	}
	for _, p := range progs {
		for _, c := range right() {
			wantNoBound(t, p, c, api.ErrPut)
			for _, w := range wrongs() {
				w.spoil(&c)
				wantNoBound(t, p, c, api.ErrPut)
			}
		}
		wantNoBound(t, p, api.Config{}, api.ErrPut)
	}
}

// P19.2: a good Prog beside each of Check's refusals.
func TestBoundWithWrongConfigurations(t *testing.T) {
	for _, text := range []string{"", "skip;", everything} {
		p := mustText(t, text)
		wantNoBound(t, p, api.Config{}, api.ErrCap)
		for _, a := range wrongs() {
			for _, c := range right() {
				a.spoil(&c)
				wantNoBound(t, p, c, a.code)
				for _, b := range wrongs() {
					d := c
					b.spoil(&d)
					wantNoBound(t, p, d, min(a.code, b.code))
				}
			}
		}
	}
	wantNoBound(t, api.Prog{}, api.Config{}, api.ErrCap)
	if got, code := Bound(api.Prog{}, least()); got != 0 || code != api.OK {
		t.Errorf("P19.2: Bound of the zero Prog = %d, %v", got, code)
	}
}

// P19.2: a bound doesn't fall when one of the configuration's numbers rises, and rises where the formula has it.
func TestBoundsDontFall(t *testing.T) {
	for _, text := range programs() {
		p := mustText(t, text)
		for _, base := range right() {
			for _, f := range fields() {
				hangs := f.name == "Cap" || f.name == "Delay" || f.name == "Narrow" || f.name == "Rounds" && len(p.Sites) > 0
				last := uint64(0)
				for v := f.least; v <= min(f.most, 20); v++ {
					c := base
					*f.of(&c) = v
					got := wantFormula(t, p, c)
					rises := hangs && sizesOf(p).edges > 0
					if v > f.least && (got < last || (got > last) != rises) {
						t.Errorf("P19.2: %+v: with %s %d the bound is %d, with one less %d", sizesOf(p), f.name, v, got, last)
					}
					last = got
				}
			}
			last := uint64(0)
			for number := range api.MaxThresh + 1 {
				c := base
				c.Thresholds = greatest().Thresholds[:number]
				got := wantFormula(t, p, c)
				if s := sizesOf(p); number > 0 && (got < last || (got > last) != (s.edges > 0 && s.variables > 0)) {
					t.Errorf("P19.2: %+v: with %d thresholds the bound is %d, with one less %d", s, number, got, last)
				}
				last = got
			}
		}
	}
}

// P19.2: which numbers the thresholds are doesn't matter.
func TestThresholdsAreCounted(t *testing.T) {
	p := mustText(t, everything)
	for _, two := range [][2][]int64{{long(0), long(math.MaxInt64)}, {long(1, 2), long(math.MinInt64, math.MaxInt64)}, {nil, {}}} {
		c, d := middle(), middle()
		c.Thresholds, d.Thresholds = two[0], two[1]
		if a, b := wantFormula(t, p, c), wantFormula(t, p, d); a != b {
			t.Errorf("P19.2: with the thresholds %v the bound is %d, with %v %d", two[0], a, two[1], b)
		}
	}
}
