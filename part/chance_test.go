package part

import (
	"math"
	"math/rand"
	"slices"
	"strings"
	"testing"

	"winnow/api"
	"winnow/check"
)

// maker makes texts of programs, configurations, tokens and paths by chance.
type maker struct{ *rand.Rand }

func newMaker(seed int64) maker { return maker{rand.New(rand.NewSource(seed))} }

func (m maker) pick(texts ...string) string { return texts[m.Intn(len(texts))] }

func (m maker) condition() string {
	return m.pick("x < 1", "x != y", "true", "y > 3 && x < 0", "!(x == 2)")
}

func (m maker) block(left int) string { return "{ " + m.statements(m.Intn(3), left-1) + "}" }

func (m maker) statements(number, left int) string {
	var text strings.Builder
	for range number {
		text.WriteString(m.statement(left) + " ")
	}
	return text.String()
}

// statement is mostly an if or a while, as these alone make tokens.
func (m maker) statement(left int) string {
	if left > 0 {
		switch m.Intn(5) {
		case 0:
			return "if " + m.condition() + " " + m.block(left)
		case 1:
			return "if " + m.condition() + " " + m.block(left) + " else " + m.block(left)
		case 2, 3:
			return "while " + m.condition() + " " + m.block(left)
		}
	}
	return m.pick("x := y + 1;", "a[0] := x;", "input y;", "assert x < y;", "skip;")
}

// program makes texts until check takes one: some have too many sites.
func (m maker) program(left int) string {
	for {
		text := "var x; array a[3]; var y; " + m.statements(m.Intn(5), left)
		if _, err := check.Text(text); err == nil {
			return text
		}
	}
}

// config is a right one; of the fields that make a part each number comes up.
func (m maker) config() api.Config {
	c := api.Config{Hist: m.Intn(4), Unroll: m.Intn(4), Cap: 1 + m.Intn(6)}
	if m.Intn(3) == 0 {
		c.Delay, c.Narrow, c.Rounds, c.Fuel, c.Tries = m.Intn(7), m.Intn(4), m.Intn(4), m.Intn(5001), m.Intn(5)
		c.Thresholds = []int64{-1, 7}[:m.Intn(3)]
	}
	return c
}

// path goes from node 0 by chance, at most so many edges.
func (m maker) path(g api.Graph, most int) []int {
	var path []int
	node := 0
	for len(path) < most && node != g.Exit {
		var outs []int
		for number, e := range g.Edges {
			if e.From == node {
				outs = append(outs, number)
			}
		}
		edge := outs[m.Intn(len(outs))]
		path, node = append(path, edge), g.Edges[edge].To
	}
	return path
}

func (m maker) whole() int {
	return []int{m.Intn(5), m.Intn(20), -m.Intn(9), math.MaxInt - m.Intn(2), math.MinInt + m.Intn(2), int(m.Uint64())}[m.Intn(6)]
}

// token is any; its loops often have nodes of a program as heads.
func (m maker) token(nodes int) api.Token {
	t := api.Token{Merged: m.Intn(8) == 0}
	for range m.Intn(6) {
		t.Hist = append(t.Hist, m.whole())
	}
	for range m.Intn(4) {
		l := api.Loop{Head: m.Intn(nodes), Count: m.whole()}
		if m.Intn(6) == 0 {
			l.Head = m.whole()
		}
		t.Loops = append(t.Loops, l)
	}
	return t
}

// P20.1, P20.4: programs and configurations by chance.
func TestPartsByChance(t *testing.T) {
	m := newMaker(201)
	broken := map[int]int{}
	zero, behindZero, full := 0, 0, 0
	for i := range 6000 {
		p, c := mustText(t, m.program(1+i%5)), m.config()
		x, times := wantWords(t, p, c)
		wantWhole(t, p, c, x)
		broken[min(times, 4)]++
		if slices.Contains(x.Merged, 0) {
			zero++
		} else if times > 1 {
			behindZero++
		}
		if len(x.Verts) >= 5*len(x.Merged)+40 {
			full++
		}
	}
	if len(broken) != 5 || broken[4] < 50 || zero < 50 || behindZero < 50 || full < 50 {
		t.Errorf("the programs are too much alike: %v findings broken off, %d with node 0, %d elsewhere, %d great parts", broken, zero, behindZero, full)
	}
}

// P20.3, P20.4: paths of programs by chance, short and long.
func TestPathsByChance(t *testing.T) {
	m := newMaker(202)
	for i := range 700 {
		p, c := mustText(t, m.program(1+i%5)), m.config()
		g, x := mustGraph(t, p), mustSplit(t, p, c)
		for most := range 12 {
			wantPath(t, p, c, x, m.path(g, most*(1+i%3)))
		}
	}
}

// P20.3: paths by chance, spoilt at one place.
func TestSpoiltPathsByChance(t *testing.T) {
	m := newMaker(203)
	refused := 0
	for i := range 3000 {
		p, c := mustText(t, m.program(1+i%4)), m.config()
		g := mustGraph(t, p)
		path := m.path(g, 12)
		if len(path) == 0 {
			continue
		}
		place := m.Intn(len(path))
		path[place] = m.Intn(len(g.Edges)+4) - 2
		node, is := 0, true
		for _, edge := range path {
			is = is && edge >= 0 && edge < len(g.Edges) && g.Edges[edge].From == node
			if is {
				node = g.Edges[edge].To
			}
		}
		if is {
			wantPath(t, p, c, mustSplit(t, p, c), path)
		} else {
			wantNoVertex(t, p, c, path, api.ErrArg)
			refused++
		}
	}
	if refused < 1000 {
		t.Errorf("only %d paths were refused", refused)
	}
}

// P20.2: tokens by chance.
func TestStepsByChance(t *testing.T) {
	m := newMaker(204)
	changed := 0
	for i := range 2000 {
		p, c := mustText(t, m.program(1+i%4)), m.config()
		g := mustGraph(t, p)
		for number, e := range g.Edges {
			token := m.token(g.Nodes)
			want := behind(e, number, c, token)
			wantStep(t, p, c, token, number, want)
			if !alike(token, want) {
				changed++
			}
		}
		if t.Failed() {
			t.FailNow()
		}
	}
	if changed < 3000 {
		t.Errorf("only %d tokens were changed", changed)
	}
}

// greatest are programs as great as they may be.
func greatest() []string {
	inner := strings.Repeat("while true { ", 11) + strings.Repeat("} ", 11)
	deep := strings.Repeat("while true { if true { ", 5) + strings.Repeat("} } ", 5)
	return []string{
		strings.Repeat("skip; ", api.MaxNodes),
		strings.Repeat("while true { } ", 100),
		strings.Repeat("if true { } else { } ", 75),
		strings.Repeat("while true { skip; } ", 75),
		strings.Repeat("if true { skip; } else { skip; } ", 50),
		strings.Repeat("if true { while true { } } ", 50),
		strings.Repeat("while true { if true { } } ", 50),
		strings.Repeat(inner, 9),
		strings.Repeat(deep, 10),
		strings.Repeat("if true { ", 11) + strings.Repeat("} ", 11) + strings.Repeat("while true { if true { skip; } } ", 38),
	}
}

// P20.1, P20.4: the greatest programs, at all corners.
func TestGreatestPrograms(t *testing.T) {
	most := 0
	for _, text := range greatest() {
		p := mustText(t, text)
		for _, c := range corners() {
			x, broken := wantWords(t, p, c)
			wantWhole(t, p, c, x)
			most = max(most, broken)
		}
	}
	if most < 3 {
		t.Errorf("at most %d findings were broken off", most)
	}
}
