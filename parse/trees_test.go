package parse

import (
	"errors"
	"math/rand"
	"slices"
	"strconv"
	"strings"
	"testing"

	"winnow/api"
)

func bare(depth int, kind api.NodeKind, at int) api.Node {
	return api.Node{Depth: depth, Kind: kind, At: at}
}

func named(depth int, kind api.NodeKind, name string, at int) api.Node {
	return api.Node{Depth: depth, Kind: kind, Name: name, At: at}
}

func valued(depth int, kind api.NodeKind, value int64, at int) api.Node {
	return api.Node{Depth: depth, Kind: kind, Num: value, At: at}
}

func number(depth int, value int64, at int) api.Node { return valued(depth, api.KNum, value, at) }

func unary(depth int, op api.Op, at int) api.Node {
	return api.Node{Depth: depth, Kind: api.KUnary, Op: op, At: at}
}

func between(depth int, op api.Op, at int) api.Node {
	return api.Node{Depth: depth, Kind: api.KBinary, Op: op, At: at}
}

func wantTree(t *testing.T, text string, want ...api.Node) {
	t.Helper()
	got, err := Parse(text)
	if err != nil || !slices.Equal(got, want) {
		t.Errorf("P3.1: Parse(%.200q) = %v, %v, want %v", text, got, err, want)
	}
	if code, at := Shape(got); code != api.OK || at != 0 {
		t.Errorf("P3.3: Shape of Parse(%.200q) = %v, %d", text, code, at)
	}
}

// P3.1: texts without a piece.
func TestNoNodes(t *testing.T) {
	for _, text := range []string{"", " ", "\n\t\r", "# nothing", "# x := 1;\n"} {
		wantTree(t, text)
	}
}

// P3.1: declarations; nothing is asked of names and lengths.
func TestDeclarations(t *testing.T) {
	wantTree(t, "var x;", named(1, api.KVar, "x", 0))
	wantTree(t, "array b[07];", api.Node{Depth: 1, Kind: api.KArray, Name: "b", Num: 7})
	wantTree(t, " array a[0]; var a ;array _1[9223372036854775807]; var abcdefghijklmnop;",
		api.Node{Depth: 1, Kind: api.KArray, Name: "a", At: 1}, named(1, api.KVar, "a", 13),
		api.Node{Depth: 1, Kind: api.KArray, Name: "_1", Num: 9223372036854775807, At: 20}, named(1, api.KVar, "abcdefghijklmnop", 51))
	wantTree(t, "var Var; var ifs; var i; var true1; var _;",
		named(1, api.KVar, "Var", 0), named(1, api.KVar, "ifs", 9), named(1, api.KVar, "i", 18), named(1, api.KVar, "true1", 25), named(1, api.KVar, "_", 36))
}

// P3.1: each statement, and their places.
func TestStatements(t *testing.T) {
	wantTree(t, "var x; x := 1 + 2 * 3;",
		named(1, api.KVar, "x", 0), named(1, api.KAssign, "x", 7), between(2, api.OpAdd, 14), number(3, 1, 12), between(3, api.OpMul, 18), number(4, 2, 16), number(4, 3, 20))
	wantTree(t, "a[i] := -a[0];",
		named(1, api.KStore, "a", 0), named(2, api.KRead, "i", 2), unary(2, api.OpNeg, 8), named(3, api.KLoad, "a", 9), number(4, 0, 11))
	wantTree(t, "input x; assert y ; skip;",
		named(1, api.KInput, "x", 0), bare(1, api.KAssert, 9), named(2, api.KRead, "y", 16), bare(1, api.KSkip, 20))
	wantTree(t, "a[b[c]]:=d;",
		named(1, api.KStore, "a", 0), named(2, api.KLoad, "b", 2), named(3, api.KRead, "c", 4), named(2, api.KRead, "d", 9))
	wantTree(t, "while true { input b; }",
		bare(1, api.KWhile, 0), valued(2, api.KBool, 1, 6), bare(2, api.KBlock, 11), named(3, api.KInput, "b", 13))
	wantTree(t, "while(false){}skip;",
		bare(1, api.KWhile, 0), valued(2, api.KBool, 0, 6), bare(2, api.KBlock, 12), bare(1, api.KSkip, 14))
}

// P3.1: an if with and without else, and nested ones: an else goes with the if whose block it stands behind.
func TestIfs(t *testing.T) {
	wantTree(t, "if x { skip; } else { }",
		bare(1, api.KIf, 0), named(2, api.KRead, "x", 3), bare(2, api.KBlock, 5), bare(3, api.KSkip, 7), bare(2, api.KBlock, 20))
	wantTree(t, "if x { } skip;",
		bare(1, api.KIf, 0), named(2, api.KRead, "x", 3), bare(2, api.KBlock, 5), bare(1, api.KSkip, 9))
	wantTree(t, "if a{if b{}else{skip;}}",
		bare(1, api.KIf, 0), named(2, api.KRead, "a", 3), bare(2, api.KBlock, 4),
		bare(3, api.KIf, 5), named(4, api.KRead, "b", 8), bare(4, api.KBlock, 9), bare(4, api.KBlock, 15), bare(5, api.KSkip, 16))
	wantTree(t, "if a{if b{}}else{skip;}",
		bare(1, api.KIf, 0), named(2, api.KRead, "a", 3), bare(2, api.KBlock, 4),
		bare(3, api.KIf, 5), named(4, api.KRead, "b", 8), bare(4, api.KBlock, 9), bare(2, api.KBlock, 16), bare(3, api.KSkip, 17))
	wantTree(t, "if a{}if b{}else{}",
		bare(1, api.KIf, 0), named(2, api.KRead, "a", 3), bare(2, api.KBlock, 4),
		bare(1, api.KIf, 6), named(2, api.KRead, "b", 9), bare(2, api.KBlock, 10), bare(2, api.KBlock, 16))
}

// P3.1: rows group to the left, brackets leave nothing behind, sorts aren't asked.
func TestGroups(t *testing.T) {
	wantTree(t, "x := (1 + 2) * 3;",
		named(1, api.KAssign, "x", 0), between(2, api.OpMul, 13), between(3, api.OpAdd, 8), number(4, 1, 6), number(4, 2, 10), number(3, 3, 15))
	wantTree(t, "x := 1 - 2 - 3;",
		named(1, api.KAssign, "x", 0), between(2, api.OpSub, 11), between(3, api.OpSub, 7), number(4, 1, 5), number(4, 2, 9), number(3, 3, 13))
	wantTree(t, "x := 1 - (2 - 3);",
		named(1, api.KAssign, "x", 0), between(2, api.OpSub, 7), number(3, 1, 5), between(3, api.OpSub, 12), number(4, 2, 10), number(4, 3, 14))
	wantTree(t, "x := ((y));", named(1, api.KAssign, "x", 0), named(2, api.KRead, "y", 7))
	wantTree(t, "x := (-(y));", named(1, api.KAssign, "x", 0), unary(2, api.OpNeg, 6), named(3, api.KRead, "y", 8))
	wantTree(t, "x := a[(1)];", named(1, api.KAssign, "x", 0), named(2, api.KLoad, "a", 5), number(3, 1, 8))
	wantTree(t, "x := 1 < 2;", named(1, api.KAssign, "x", 0), between(2, api.OpLt, 7), number(3, 1, 5), number(3, 2, 9))
	wantTree(t, "x := -!y * 2;", named(1, api.KAssign, "x", 0), between(2, api.OpMul, 9), unary(3, api.OpNeg, 5), unary(4, api.OpNot, 6), named(5, api.KRead, "y", 7), number(3, 2, 11))
	wantTree(t, "x := (a < b) < (c < d);",
		named(1, api.KAssign, "x", 0), between(2, api.OpLt, 13), between(3, api.OpLt, 8), named(4, api.KRead, "a", 6), named(4, api.KRead, "b", 10),
		between(3, api.OpLt, 18), named(4, api.KRead, "c", 16), named(4, api.KRead, "d", 20))
}

// P3.1: 300 nodes may be, a 301st is told by its place, which isn't always where the list's text goes on.
func TestManyNodes(t *testing.T) {
	skips := func(n int) string { return strings.Repeat("skip;", n) }
	nodes, err := Parse(skips(300))
	if err != nil || len(nodes) != 300 || nodes[299] != bare(1, api.KSkip, 1495) {
		t.Errorf("P3.1: of 300 nodes: %d, %v", len(nodes), err)
	}
	nodes, err = Parse(skips(298) + "x := 1;")
	if err != nil || len(nodes) != 300 {
		t.Errorf("P3.1: of 300 nodes, the last ones one statement: %d, %v", len(nodes), err)
	}
	for text, at := range map[string]int{
		skips(301):                              1500,
		skips(302):                              1500,
		skips(1638):                             1500,
		skips(299) + "x := 1;":                  1500,
		skips(298) + "x := 1 + 2;":              1490 + 5,
		skips(297) + "x := 1 + 2;":              1485 + 9,
		skips(299) + "x := 1 + 2;":              1495 + 7,
		skips(300) + "x := " + "-------1;":      1500,
		skips(299) + "if (x) { }":               1495 + 4,
		skips(298) + "if x { } else { }":        1490 + 5,
		skips(297) + "if x { } else { }":        1485 + 14,
		strings.Repeat("var x;", 300) + "skip;": 1800,
	} {
		nodes, err := Parse(text)
		wantRefusal(t, text, nodes, err, api.ErrMany, at)
	}
}

// P3.1: a Depth of 24 may be; of 25 the first node in the list is told, whichever kind it is of.
func TestDeepNodes(t *testing.T) {
	deepest := func(text string) int {
		nodes, err := Parse(text)
		if err != nil {
			t.Fatalf("P3.1: Parse(%.200q) = %v", text, err)
		}
		most := 0
		for _, n := range nodes {
			most = max(most, n.Depth)
		}
		return most
	}
	ifs := func(n int, inner string) string {
		return strings.Repeat("if x{", n) + inner + strings.Repeat("}", n)
	}
	sums := func(n int) string { return "x:=1" + strings.Repeat("+1", n) + ";" }
	for _, text := range []string{
		"x := " + strings.Repeat("!", 22) + "y;", "x := " + strings.Repeat("-!", 11) + "1;", ifs(11, "x:=1;"), ifs(11, "if x{}"), ifs(12, ""), sums(22), "x := " + strings.Repeat("a[", 22) + "0" + strings.Repeat("]", 22) + ";",
	} {
		if got := deepest(text); got != api.MaxNest {
			t.Errorf("P3.1: the deepest node of %q has the Depth %d", text, got)
		}
	}
	for text, at := range map[string]int{
		"x := " + strings.Repeat("!", 23) + "y;":                                 28,
		"x := " + strings.Repeat("!", 40) + "y;":                                 28,
		"x := " + strings.Repeat("(!", 23) + "y" + strings.Repeat(")", 23) + ";": 5 + 46,
		ifs(11, "x:=-1;"): 59,
		ifs(12, "skip;"):  60,
		ifs(13, ""):       60,
		// The operators of a row are the deeper the further left they stand.
		sums(23): 3,
		sums(24): 4,
		sums(30): 16,
		"x := " + strings.Repeat("a[", 23) + "0" + strings.Repeat("]", 23) + ";": 51,
	} {
		nodes, err := Parse(text)
		wantRefusal(t, text, nodes, err, api.ErrDeep, at)
	}
	for _, n := range []int{1, 24, 25, 900, 4093} {
		wantTree(t, "x:="+strings.Repeat("(", n)+"y"+strings.Repeat(")", n)+";", named(1, api.KAssign, "x", 0), named(2, api.KRead, "y", 3+n))
	}
}

// P3.1: the longest texts there may be, as deep as they can be.
func TestTheLongestTexts(t *testing.T) {
	for text, code := range map[string]api.Errno{
		strings.Repeat("(", api.MaxSource):                           api.ErrWant,
		strings.Repeat("!", api.MaxSource):                           api.ErrWant,
		"x:=" + strings.Repeat("(", api.MaxSource-3):                 api.ErrWant,
		"x:=" + strings.Repeat("!", api.MaxSource-3):                 api.ErrWant,
		"x:=" + strings.Repeat("!", api.MaxSource-5) + "y;":          api.ErrMany,
		"x:=" + strings.Repeat("a[", api.MaxSource/2-2):              api.ErrWant,
		"x:=y" + strings.Repeat("+y", api.MaxSource/2-3) + ";":       api.ErrMany,
		strings.Repeat("if x{", 1365) + strings.Repeat("}", 1365):    api.ErrMany,
		strings.Repeat("if x{", 1365) + strings.Repeat("}", 1364):    api.ErrWant,
		strings.Repeat("while x{", 1000) + strings.Repeat("\n", 100): api.ErrWant,
	} {
		if len(text) > api.MaxSource {
			t.Fatalf("a text of %d bytes", len(text))
		}
		nodes, err := Parse(text)
		if !errors.Is(err, code) || !errors.Is(err, api.ErrReject) || nodes != nil {
			t.Errorf("P3.1: Parse(%.20q..) = %d nodes, %v, want %v", text, len(nodes), err, code)
		}
	}
}

// writer makes a tree by chance and its text beside it: brackets where they are needed, and some that aren't.
type writer struct {
	*rand.Rand
	text  strings.Builder
	nodes []api.Node
}

// say writes a piece, blanks and comments ahead of it by chance, and tells its place. Without a blank a word would run into the one ahead.
func (w *writer) say(piece string) int {
	blanks := []string{" ", " ", " ", "\n", "\t ", " # ; }\n", "\r\n"}
	w.text.WriteString(blanks[w.Intn(len(blanks))])
	w.text.WriteString(piece)
	return w.text.Len() - len(piece)
}

// put lays a node whose place isn't told yet, and tells its number.
func (w *writer) put(n api.Node) int {
	w.nodes = append(w.nodes, n)
	return len(w.nodes) - 1
}

func (w *writer) name() string {
	return []string{"x", "y", "_", "iff", "a1", "abcdefghijklmnop", "Else"}[w.Intn(7)]
}

var signs = []string{
	api.OpNeg: "-", api.OpNot: "!", api.OpAdd: "+", api.OpSub: "-", api.OpMul: "*", api.OpDiv: "/", api.OpRem: "%",
	api.OpLt: "<", api.OpLe: "<=", api.OpGt: ">", api.OpGe: ">=", api.OpEq: "==", api.OpNe: "!=", api.OpAnd: "&&", api.OpOr: "||",
}

// level tells how close an operator binds: 1 is ||, 5 is *, 6 are the signs ahead of one operand.
func level(op api.Op) int {
	switch {
	case op == api.OpOr:
		return 1
	case op == api.OpAnd:
		return 2
	case op >= api.OpLt:
		return 3
	case op >= api.OpMul:
		return 5
	case op >= api.OpAdd:
		return 4
	}
	return 6
}

// expr writes an expression that may stand where operators of a level or closer may.
func (w *writer) expr(depth, least, left int) {
	kind := w.Intn(9)
	op := api.Op(1 + w.Intn(15))
	needed := left > 0 && kind >= 4 && level(op) < least
	if needed || w.Intn(8) == 0 {
		w.say("(")
		defer w.say(")")
	}
	switch {
	case left > 0 && kind >= 4 && op <= api.OpNot:
		i := w.put(unary(depth, op, 0))
		w.nodes[i].At = w.say(signs[op])
		w.expr(depth+1, 6, left-1)
	case left > 0 && kind >= 4:
		i := w.put(between(depth, op, 0))
		own := level(op)
		first := own
		if own == 3 {
			first = 4
		}
		w.expr(depth+1, first, left-1)
		w.nodes[i].At = w.say(signs[op])
		w.expr(depth+1, own+1, left-1)
	case left > 0 && kind == 3:
		i := w.put(named(depth, api.KLoad, w.name(), 0))
		w.nodes[i].At = w.say(w.nodes[i].Name)
		w.say("[")
		w.expr(depth+1, 1, left-1)
		w.say("]")
	case kind == 2:
		i := w.put(valued(depth, api.KBool, int64(w.Intn(2)), 0))
		w.nodes[i].At = w.say([]string{"false", "true"}[w.nodes[i].Num])
	case kind == 1:
		i := w.put(number(depth, w.Int63()>>w.Intn(63), 0))
		w.nodes[i].At = w.say(strings.Repeat("0", w.Intn(3)) + strconv.FormatInt(w.nodes[i].Num, 10))
	default:
		i := w.put(named(depth, api.KRead, w.name(), 0))
		w.nodes[i].At = w.say(w.nodes[i].Name)
	}
}

func (w *writer) block(depth, left int) {
	i := w.put(bare(depth, api.KBlock, 0))
	w.nodes[i].At = w.say("{")
	w.statements(depth+1, left)
	w.say("}")
}

func (w *writer) statements(depth, left int) {
	for range w.Intn(3) {
		w.statement(depth, left)
	}
}

func (w *writer) statement(depth, left int) {
	kind := w.Intn(8)
	if left == 0 {
		kind = w.Intn(5)
	}
	switch kind {
	case 0:
		w.put(bare(depth, api.KSkip, w.say("skip")))
	case 1:
		i := w.put(named(depth, api.KInput, w.name(), w.say("input")))
		w.say(w.nodes[i].Name)
	case 2:
		w.put(bare(depth, api.KAssert, w.say("assert")))
		w.expr(depth+1, 1, 4)
	case 3:
		name := w.name()
		w.put(named(depth, api.KAssign, name, w.say(name)))
		w.say(":=")
		w.expr(depth+1, 1, 4)
	case 4:
		name := w.name()
		w.put(named(depth, api.KStore, name, w.say(name)))
		w.say("[")
		w.expr(depth+1, 1, 3)
		w.say("]")
		w.say(":=")
		w.expr(depth+1, 1, 3)
	default:
		w.compound(kind, depth, left)
		return
	}
	w.say(";")
}

func (w *writer) compound(kind, depth, left int) {
	if kind == 5 {
		w.put(bare(depth, api.KWhile, w.say("while")))
	} else {
		w.put(bare(depth, api.KIf, w.say("if")))
	}
	w.expr(depth+1, 1, 2)
	w.block(depth+1, left-1)
	if kind == 7 {
		w.say("else")
		w.block(depth+1, left-1)
	}
}

func (w *writer) program() {
	for range w.Intn(4) {
		if w.Intn(2) == 0 {
			i := w.put(named(1, api.KVar, w.name(), w.say("var")))
			w.say(w.nodes[i].Name)
		} else {
			i := w.put(named(1, api.KArray, w.name(), w.say("array")))
			w.nodes[i].Num = int64(w.Intn(100))
			w.say(w.nodes[i].Name)
			w.say("[")
			w.say(strconv.FormatInt(w.nodes[i].Num, 10))
			w.say("]")
		}
		w.say(";")
	}
	for range w.Intn(4) {
		w.statement(1, 3)
	}
}

// P3.1, P3.3: the trees of many texts, with all places.
func TestTreesByChance(t *testing.T) {
	c := rand.New(rand.NewSource(31))
	taken := 0
	for range 4000 {
		w := &writer{Rand: c}
		w.program()
		if len(w.nodes) > api.MaxNodes || w.text.Len() > api.MaxSource {
			continue
		}
		taken += len(w.nodes)
		wantTree(t, w.text.String(), w.nodes...)
	}
	if taken < 40000 {
		t.Errorf("the trees had %d nodes in all", taken)
	}
}

// P3.1: what errors.Is and errors.As tell of a refusal; and without one the error is nil itself.
func TestWhatARefusalIs(t *testing.T) {
	for text, code := range map[string]api.Errno{
		"=": api.ErrByte, strings.Repeat("a", 17): api.ErrLong, "1x": api.ErrDigits, "}": api.ErrWant, strings.Repeat("skip;", 301): api.ErrMany, "x := " + strings.Repeat("-", 23) + "1;": api.ErrDeep,
	} {
		nodes, err := Parse(text)
		var number api.Errno
		var fault *api.Fault
		if nodes != nil || !errors.As(err, &fault) || !errors.As(err, &number) || number != code || fault.Code != code || fault.Of != api.ErrReject {
			t.Errorf("P3.1: Parse(%.30q) = %v, %v", text, nodes, err)
		}
		if !errors.Is(err, api.ErrReject) || !errors.Is(err, code) || errors.Is(err, api.ErrConfig) || errors.Is(err, api.ErrShape) || error(fault) != err {
			t.Errorf("P3.1: the refusal of %.30q is %v", text, err)
		}
		_, again := Parse(text)
		var other *api.Fault
		if !errors.As(again, &other) || other == fault || *other != *fault {
			t.Errorf("P3.1: the refusal of %.30q, told again, is %v", text, again)
		}
	}
	if _, err := Parse("skip;"); err != nil {
		t.Errorf("P3.1: %v", err)
	}
}

// P3.4: each list that is answered is new memory, its spare room too.
func TestListsAreNew(t *testing.T) {
	const text = "var x; if x < 1 { x := a[2]; } else { input x; }"
	first, _ := Parse(text)
	kept := slices.Clone(first)
	second, _ := Parse(text)
	for _, l := range [][]api.Node{second, second[:cap(second)]} {
		for i := range l {
			l[i] = api.Node{Depth: -1, Kind: api.KBinary, Name: "spoilt", Num: -1, Op: -1, At: -1}
		}
	}
	third, _ := Parse(text)
	if len(first) == 0 || !slices.Equal(first, kept) || !slices.Equal(third, kept) {
		t.Errorf("P3.4: a list that was answered was changed: %v, %v, want %v", first, third, kept)
	}
}

// P3.4: any bytes at all: the call ends, and what it takes is a tree.
func FuzzParse(f *testing.F) {
	for _, text := range []string{"", "var x; x := 1 + 2 * 3;", "if x { skip; } else { }", "a[i] := -a[0];", "x := a < b < c;", "x y", "\xff", "while (((", strings.Repeat("!", 30)} {
		f.Add(text)
	}
	f.Fuzz(func(t *testing.T, text string) {
		nodes, err := Parse(text)
		var fault *api.Fault
		if err != nil && (nodes != nil || !errors.As(err, &fault) || fault.At < 0 || fault.At > len(text)) {
			t.Errorf("P3.1: Parse(%q) = %v, %v", text, nodes, err)
		}
		if code, at := Shape(nodes); code != api.OK || at != 0 {
			t.Errorf("P3.3: Shape of Parse(%q) = %v, %d", text, code, at)
		}
	})
}

// What wasn't thrown as a refusal is no refusal: a mistake of the package isn't told as one of the text.
func TestMistakesAreNoRefusals(t *testing.T) {
	defer func() {
		if thrown := recover(); thrown != "a mistake" {
			t.Errorf("what was thrown became %v", thrown)
		}
	}()
	refusal("a mistake")
}
