package print

import (
	"math/rand"
	"slices"
	"strconv"
	"strings"
	"testing"
	"unsafe"

	"winnow/api"
	"winnow/parse"
)

// speller writes trees by the chapter's words. more tells how many pairs of brackets stand around an expression beyond those that it needs.
type speller struct{ more func() int }

var plain = speller{func() int { return 0 }}

// expression is an expression's text at a place that wants a level.
func (w speller) expression(of tree, wants int) string {
	n := of.node
	held := make([]string, len(of.holds))
	for i, h := range of.holds {
		held[i] = w.expression(h, wanted(n)[i])
	}
	var s string
	switch n.Kind {
	case api.KNum:
		s = strconv.FormatInt(n.Num, 10)
	case api.KBool:
		s = strconv.FormatBool(n.Num == 1)
	case api.KRead:
		s = n.Name
	case api.KLoad:
		s = n.Name + "[" + held[0] + "]"
	case api.KUnary:
		s = sign(n.Op) + held[0]
	case api.KBinary:
		s = held[0] + " " + sign(n.Op) + " " + held[1]
	}
	more := w.more()
	return strings.Repeat("(", more) + bracketed(s, levelOf(n) < wants) + strings.Repeat(")", more)
}

// lines are those of declarations and statements; a block's are moved by two blanks.
func (w speller) lines(trees []tree) string {
	var s string
	for _, tr := range trees {
		name := tr.node.Name
		held := func(i int) string { return w.expression(tr.holds[i], 1) }
		inner := func(i int) string { return moved(w.lines(tr.holds[i].holds), "  ") }
		switch tr.node.Kind {
		case api.KVar:
			s += "var " + name + ";\n"
		case api.KArray:
			s += "array " + name + "[" + strconv.FormatInt(tr.node.Num, 10) + "];\n"
		case api.KAssign:
			s += name + " := " + held(0) + ";\n"
		case api.KStore:
			s += name + "[" + held(0) + "] := " + held(1) + ";\n"
		case api.KInput:
			s += "input " + name + ";\n"
		case api.KAssert:
			s += "assert " + held(0) + ";\n"
		case api.KSkip:
			s += "skip;\n"
		case api.KWhile:
			s += "while " + held(0) + " {\n" + inner(1) + "}\n"
		case api.KIf:
			s += "if " + held(0) + " {\n" + inner(1)
			if len(tr.holds) > 2 {
				s += "} else {\n" + inner(2)
			}
			s += "}\n"
		}
	}
	return s
}

// maker makes trees by chance.
type maker struct{ *rand.Rand }

func (m maker) name() string {
	const first = "abcxyzABCXYZ_"
	name := []byte{first[m.Intn(len(first))]}
	for range m.Intn(api.MaxName) {
		name = append(name, (first + "0123456789")[m.Intn(len(first)+10)])
	}
	return string(name)
}

func (m maker) number() int64 { return m.Int63() >> m.Intn(63) }

func (m maker) expression(left int) tree {
	choice := m.Intn(9)
	switch {
	case choice == 0 || left == 0 && choice < 4:
		return num(m.number())
	case choice == 1 || left == 0 && choice < 8:
		return tree{node: api.Node{Kind: api.KRead, Name: m.name()}}
	case left == 0:
		return truthOf(m.Int63n(2))
	case choice == 2:
		return tree{api.Node{Kind: api.KLoad, Name: m.name()}, []tree{m.expression(left - 1)}}
	case choice < 5:
		return un(api.OpNeg+api.Op(m.Intn(2)), m.expression(left-1))
	}
	return bin(api.OpAdd+api.Op(m.Intn(13)), m.expression(left-1), m.expression(left-1))
}

func (m maker) block(left int) tree {
	b := tree{node: api.Node{Kind: api.KBlock}}
	for range m.Intn(4) {
		b.holds = append(b.holds, m.statement(left-1))
	}
	return b
}

func (m maker) statement(left int) tree {
	value := func() tree { return m.expression(m.Intn(4)) }
	kind := []api.NodeKind{api.KAssign, api.KStore, api.KInput, api.KAssert, api.KSkip, api.KIf, api.KIf, api.KWhile}[m.Intn(5+min(left, 3))]
	s := tree{node: api.Node{Kind: kind}}
	switch kind {
	case api.KAssign, api.KStore, api.KInput:
		s.node.Name = m.name()
	}
	switch kind {
	case api.KAssign, api.KAssert:
		s.holds = []tree{value()}
	case api.KStore:
		s.holds = []tree{value(), value()}
	case api.KIf, api.KWhile:
		s.holds = []tree{value(), m.block(left)}
	}
	if kind == api.KIf && m.Intn(2) == 0 {
		s.holds = append(s.holds, m.block(left))
	}
	return s
}

func (m maker) program() []tree {
	var trees []tree
	for range m.Intn(5) {
		d := tree{node: api.Node{Kind: api.KVar, Name: m.name()}}
		if m.Intn(2) == 0 {
			d.node.Kind, d.node.Num = api.KArray, m.number()
		}
		trees = append(trees, d)
	}
	for range m.Intn(15) {
		trees = append(trees, m.statement(m.Intn(12)))
	}
	return trees
}

// blanks is what parts two pieces, or nothing.
func (m maker) blanks() string {
	return []string{"", "", "", " ", "\n", "\t ", "\r", "# ( ; }\n"}[m.Intn(8)]
}

// spelled is another text of a text's tree: other blanks, comments, and zeros ahead of numbers.
func (m maker) spelled(text string) string {
	var s strings.Builder
	inWord := false
	for i := range len(text) {
		b := text[i]
		digit := '0' <= b && b <= '9'
		letter := digit || 'a' <= b && b <= 'z' || 'A' <= b && b <= 'Z' || b == '_'
		switch {
		case b == ' ' || b == '\n':
			s.WriteString(" " + m.blanks())
		case digit && !inWord:
			s.WriteString(m.blanks() + strings.Repeat("0", m.Intn(3)) + string(b))
		case strings.ContainsRune("=&|", rune(b)) || letter && inWord:
			s.WriteByte(b)
		default:
			s.WriteString(m.blanks() + string(b))
		}
		inWord = letter
	}
	return s.String() + m.blanks()
}

// held holds Text of a tree against the words; it answers the nodes and the text, if there is one.
func held(t *testing.T, trees []tree) ([]api.Node, string) {
	t.Helper()
	ns := flat(trees, 1)
	s, code := Text(ns)
	if refused, _ := parse.Shape(ns); refused != api.OK {
		if s != "" || code != refused {
			t.Fatalf("P5.1: no tree: %q, %v, want %v", s, code, refused)
		}
		return nil, ""
	}
	want := plain.lines(trees)
	if len(want) > api.MaxSource {
		if s != "" || code != api.ErrPrint {
			t.Fatalf("P5.1: a text of %d bytes: %d bytes, %v", len(want), len(s), code)
		}
		return nil, ""
	}
	if s != want || code != api.OK {
		t.Fatalf("P5.1: %q, %v, want %q", s, code, want)
	}
	return ns, s
}

// readBack holds what is read of a text against the tree, and what is printed of that against another text.
func readBack(t *testing.T, text string, ns []api.Node, want string) {
	t.Helper()
	again := mustTree(t, text)
	if !sameTree(again, ns) {
		t.Fatalf("P5.2: %q isn't read as the tree", text)
	}
	if s, code := Text(again); s != want || code != api.OK {
		t.Fatalf("P5.2: %q is printed as %q, %v, want %q", text, s, code, want)
	}
}

// everyBracketCounts holds each pair of brackets of a text against the text without it.
func everyBracketCounts(t *testing.T, text string, ns []api.Node) {
	t.Helper()
	var open []int
	for i := range len(text) {
		switch text[i] {
		case '(':
			open = append(open, i)
		case ')':
			without := []byte(text)
			without[open[len(open)-1]], without[i] = ' ', ' '
			open = open[:len(open)-1]
			if other, err := parse.Parse(string(without)); err == nil && sameTree(other, ns) {
				t.Fatalf("P5.1: brackets that aren't needed: %q", text)
			}
		}
	}
}

// P5.1, P5.2: trees by chance, read back, spelled otherwise, and without one of their brackets.
func TestTreesByChance(t *testing.T) {
	m := maker{rand.New(rand.NewSource(5))}
	texts, brackets := 0, 0
	for range 1500 {
		trees := m.program()
		ns, s := held(t, trees)
		if ns == nil {
			continue
		}
		texts++
		brackets += strings.Count(s, "(")
		readBack(t, s, ns, s)
		everyBracketCounts(t, s, ns)
		bracketing := speller{func() int { return max(0, m.Intn(6)-3) }}.lines(trees)
		for _, text := range []string{m.spelled(s), bracketing, m.spelled(bracketing)} {
			if len(text) <= api.MaxSource {
				readBack(t, text, ns, s)
			}
		}
	}
	if texts < 1000 || brackets < 4000 {
		t.Errorf("too few: %d texts with %d brackets", texts, brackets)
	}
}

// P5.1: long trees, on both sides of the limit.
func TestLongTreesByChance(t *testing.T) {
	m := maker{rand.New(rand.NewSource(6))}
	taken, refused := 0, 0
	for range 300 {
		var inner []tree
		for range 240 {
			inner = append(inner, tree{node: api.Node{Kind: api.KInput, Name: m.name()}})
		}
		for range 5 + m.Intn(6) {
			b := tree{api.Node{Kind: api.KBlock}, inner}
			inner = []tree{m.statement(0), {api.Node{Kind: api.KWhile}, []tree{read(m.name()), b}}}
		}
		if ns, _ := held(t, inner); ns != nil {
			taken++
		} else {
			refused++
		}
	}
	if taken < 20 || refused < 20 {
		t.Errorf("too few: %d texts, %d that were too long", taken, refused)
	}
}

// P5.1, P5.3: lists of anything are refused as parse.Shape refuses them, or printed and read back.
func TestListsOfAnything(t *testing.T) {
	m := maker{rand.New(rand.NewSource(7))}
	for range 6000 {
		ns := flat(m.program(), 1)
		for range 1 + m.Intn(3) {
			if len(ns) == 0 {
				break
			}
			i := m.Intn(len(ns))
			n := &ns[i]
			switch m.Intn(8) {
			case 0:
				n.Depth += m.Intn(5) - 2
			case 1:
				n.Kind = api.NodeKind(m.Intn(18) - 1)
			case 2:
				n.Name = []string{"", "if", "x", "9", "\xff"}[m.Intn(5)]
			case 3:
				n.Num = int64(m.Intn(4) - 1)
			case 4:
				n.Op = api.Op(m.Intn(18) - 1)
			case 5:
				ns = slices.Delete(ns, i, i+1)
			case 6:
				ns = slices.Insert(ns, i, ns[m.Intn(len(ns))])
			case 7:
				ns = ns[:i]
			}
		}
		s, code := Text(ns)
		refused, _ := parse.Shape(ns)
		switch {
		case code == api.ErrPrint:
			// How long the text would be is asked of trees elsewhere.
			if s != "" || refused != api.OK {
				t.Fatalf("P5.1: %q and ErrPrint, Shape: %v", s, refused)
			}
		case code != refused || code != api.OK && s != "":
			t.Fatalf("P5.1: %q, %v, Shape: %v", s, code, refused)
		case code == api.OK:
			readBack(t, s, ns, s)
		}
	}
}

// P5.1: places have no part in the text, and what was called ahead hasn't either.
func TestPlacesHaveNoPart(t *testing.T) {
	m := maker{rand.New(rand.NewSource(8))}
	for range 200 {
		ns, s := held(t, m.program())
		for i := range ns {
			ns[i].At = m.Int() - m.Int()
		}
		if again, _ := Text(ns); again != s {
			t.Fatalf("P5.1: with other places %q is printed as %q", s, again)
		}
	}
}

// P5.3: what is handed in stays, room behind it too, of trees and of others.
func TestWhatIsHandedInStays(t *testing.T) {
	m := maker{rand.New(rand.NewSource(9))}
	filler := api.Node{Depth: 77, Kind: 77, Name: "filler", Num: 77, Op: 77, At: 77}
	lists := [][]api.Node{{}, longest(api.MaxSource), longest(api.MaxSource + 1), {{Depth: 1, Kind: api.KAssign, Name: "x"}}, {{Depth: 3, Kind: api.KSkip}}}
	for range 200 {
		lists = append(lists, flat(m.program(), 1))
	}
	for _, list := range lists {
		roomy := append(slices.Clone(list), slices.Repeat([]api.Node{filler}, 9)...)
		before := slices.Clone(roomy)
		Text(roomy[:len(list)])
		if !slices.Equal(roomy, before) {
			t.Fatal("P5.3: a list that was handed in is another now")
		}
	}
}

// P5.3: the text shares no memory with the names.
func TestTheTextIsNew(t *testing.T) {
	name := []byte("abc")
	ns := []api.Node{{Depth: 1, Kind: api.KInput, Name: unsafe.String(&name[0], len(name))}}
	s, code := Text(ns)
	copy(name, "xyz")
	if s != "input abc;\n" || code != api.OK {
		t.Errorf("P5.3: behind a change of the name the text is %q, %v", s, code)
	}
}

// P5.2: whatever text is read, its tree is printed as one text, which is read as the tree.
func FuzzText(f *testing.F) {
	for _, text := range []string{"", "var x;array a[3];x:=1+2*3;", "if x<1{skip;}else{}while true{a[0]:=x;}", "x := - - y * -(z + 1);", "b := (x < 1) == (y < 2);"} {
		f.Add(text)
	}
	f.Fuzz(func(t *testing.T, text string) {
		ns, err := parse.Parse(text)
		if err != nil {
			return
		}
		s, code := Text(ns)
		if code == api.ErrPrint && s == "" {
			return
		}
		if code != api.OK {
			t.Fatalf("P5.1: Text of the tree of %q: %v", text, code)
		}
		readBack(t, s, ns, s)
		everyBracketCounts(t, s, ns)
	})
}
