package parse

import (
	"math"
	"math/rand"
	"slices"
	"strconv"
	"strings"
	"testing"

	"winnow/api"
)

func wantShape(t *testing.T, ns []api.Node, wantCode api.Errno, wantAt int) {
	t.Helper()
	if code, at := Shape(ns); code != wantCode || at != wantAt {
		t.Fatalf("P3.2: Shape(%v) = %v, %d, want %v, %d", ns, code, at, wantCode, wantAt)
	}
}

// P3.2: the chapter's examples.
func TestShapeExamples(t *testing.T) {
	truth := valued(2, api.KBool, 1, 0)
	x := named(1, api.KAssign, "x", 0)
	for _, c := range []struct {
		ns   []api.Node
		code api.Errno
		at   int
	}{
		{nil, api.OK, 0},
		{[]api.Node{}, api.OK, 0},
		{[]api.Node{x}, api.ErrShape, 1},
		{[]api.Node{x, number(2, 1, 0), number(2, 2, 0)}, api.ErrShape, 2},
		{[]api.Node{bare(2, api.KSkip, 0)}, api.ErrShape, 0},
		{[]api.Node{bare(1, api.KSkip, 0), named(1, api.KVar, "x", 0)}, api.ErrShape, 1},
		{[]api.Node{bare(1, api.KIf, 0), truth, bare(2, api.KBlock, 0), bare(3, api.KSkip, 0), bare(2, api.KBlock, 0), bare(2, api.KBlock, 0)}, api.ErrShape, 5},
		{[]api.Node{bare(1, api.KIf, 0), valued(2, api.KBool, 2, 0)}, api.ErrShape, 1},
		{[]api.Node{named(1, api.KVar, "if", 0)}, api.ErrShape, 0},
		{[]api.Node{bare(1, api.KAssert, 0), number(2, 7, 0)}, api.OK, 0},
		{[]api.Node{bare(1, api.KSkip, -5)}, api.OK, 0},
		{[]api.Node{bare(1, api.KSkip, math.MinInt), bare(1, api.KSkip, math.MaxInt), bare(1, api.KSkip, 0)}, api.OK, 0},
	} {
		wantShape(t, c.ns, c.code, c.at)
	}
}

// samples has a node of each kind, of the Depth 0, with such fields that it may stand.
func samples() []api.Node {
	ns := make([]api.Node, 16)
	for k := range ns {
		ns[k].Kind = api.NodeKind(k)
		switch ns[k].Kind {
		case api.KVar, api.KArray, api.KAssign, api.KStore, api.KInput, api.KRead, api.KLoad:
			ns[k].Name = "x"
		case api.KUnary:
			ns[k].Op = api.OpNeg
		case api.KBinary:
			ns[k].Op = api.OpAdd
		}
	}
	return ns
}

// around is a tree in which each kind stands.
func around() []api.Node {
	return []api.Node{
		named(1, api.KVar, "x", 0),
		{Depth: 1, Kind: api.KArray, Name: "a", Num: 4},
		named(1, api.KAssign, "x", 0), unary(2, api.OpNeg, 0), number(3, 1, 0),
		named(1, api.KStore, "a", 0), number(2, 1, 0), named(2, api.KLoad, "a", 0), named(3, api.KRead, "x", 0),
		bare(1, api.KIf, 0), valued(2, api.KBool, 1, 0), bare(2, api.KBlock, 0), bare(3, api.KSkip, 0), bare(2, api.KBlock, 0),
		bare(1, api.KWhile, 0), between(2, api.OpLt, 0), number(3, 1, 0), number(3, 2, 0), bare(2, api.KBlock, 0), named(3, api.KInput, "x", 0),
		bare(1, api.KAssert, 0), valued(2, api.KBool, 0, 0),
	}
}

// P3.2: each field of each kind, at its edges and beyond.
func TestFields(t *testing.T) {
	tree := around()
	wantShape(t, tree, api.OK, 0)
	try := func(i int, ok bool, change func(n *api.Node)) {
		t.Helper()
		list := slices.Clone(tree)
		change(&list[i])
		if ok {
			wantShape(t, list, api.OK, 0)
		} else {
			wantShape(t, list, api.ErrShape, i)
		}
	}
	seen := map[api.NodeKind]int{}
	for i, n := range tree {
		k := n.Kind
		seen[k]++
		hasName := slices.Contains([]api.NodeKind{api.KVar, api.KArray, api.KAssign, api.KStore, api.KInput, api.KRead, api.KLoad}, k)
		for name, good := range nameTable() {
			try(i, hasName && good || !hasName && name == "", func(n *api.Node) { n.Name = name })
		}
		for _, v := range []int64{math.MinInt64, -1, 0, 1, 2, 17, math.MaxInt64} {
			any := k == api.KArray || k == api.KNum
			try(i, v == 0 || v == 1 && k == api.KBool || v >= 0 && any, func(n *api.Node) { n.Num = v })
		}
		for _, op := range []api.Op{math.MinInt, -1, 0, 1, 2, 3, 4, 5, 6, 7, 8, 9, 10, 11, 12, 13, 14, 15, 16, math.MaxInt} {
			good := op == api.OpNone
			switch k {
			case api.KUnary:
				good = op == 1 || op == 2
			case api.KBinary:
				good = op >= 3 && op <= 15
			}
			try(i, good, func(n *api.Node) { n.Op = op })
		}
		for _, kind := range []api.NodeKind{math.MinInt, -1, 16, 17, 256, math.MaxInt} {
			try(i, false, func(n *api.Node) { n.Kind = kind })
		}
		for _, at := range []int{math.MinInt, -1, 0, 9000, math.MaxInt} {
			try(i, true, func(n *api.Node) { n.At = at })
		}
		for _, depth := range []int{math.MinInt, -1, 0, 24, 25, 26, math.MaxInt} {
			try(i, false, func(n *api.Node) { n.Depth = depth })
		}
	}
	if len(seen) != 16 {
		t.Errorf("the tree has %d kinds", len(seen))
	}
}

// nameTable tells of words whether they are names.
func nameTable() map[string]bool {
	names := map[string]bool{
		"": false, "x": true, "_": true, "Z9": true, "a_b": true, "9": false, "9a": false, "a-b": false, "a b": false, " a": false, "a ": false, "a#": false, "é": false, "a\x00": false, "\xff": false, "a\xff": false, "a;": false,
		"abcdefghijklmnop": true, "abcdefghijklmnopq": false, "aaaaaaaaaaaaaaaé": false, "0": false, "iff": true, "If": true, "els": true,
	}
	for _, word := range strings.Fields("var array input assert skip if else while true false") {
		names[word] = false
		names[word+"1"] = true
		names[word[1:]] = true
	}
	return names
}

// P3.2: of all bytes, which may stand in front of a name and within it.
func TestBytesOfNames(t *testing.T) {
	for b := range 256 {
		letter := b >= 'a' && b <= 'z' || b >= 'A' && b <= 'Z' || b == '_'
		digit := b >= '0' && b <= '9'
		byteOf := string([]byte{byte(b)})
		for name, good := range map[string]bool{byteOf: letter, byteOf + "x": letter, "x" + byteOf: letter || digit, "x" + byteOf + "x": letter || digit} {
			list := []api.Node{named(1, api.KInput, name, 0)}
			if good {
				wantShape(t, list, api.OK, 0)
				wantTree(t, "input "+name+";", named(1, api.KInput, name, 0))
			} else {
				wantShape(t, list, api.ErrShape, 0)
			}
		}
	}
}

// treesGrammar says which rows of kinds and Depths are trees, up to a Depth; written out from the document's point 2.
func treesGrammar(deepest int) grammar {
	g := grammar{}
	put := func(name string, depth int, rows ...string) {
		for _, row := range rows {
			var symbols []string
			for _, s := range strings.Fields(row) {
				deeper, down := strings.CutSuffix(s, "+")
				d := depth
				if down {
					d++
				}
				if d > deepest {
					symbols = nil
					break
				}
				symbols = append(symbols, deeper+strconv.Itoa(d))
			}
			if symbols != nil || row == "" {
				g[name+strconv.Itoa(depth)] = append(g[name+strconv.Itoa(depth)], symbols)
			}
		}
	}
	put("declarations", 1, "", "declarations KVar", "declarations KArray")
	for d := 1; d <= deepest; d++ {
		put("statements", d, "", "statements statement")
		put("statement", d, "KAssign expr+", "KStore expr+ expr+", "KInput", "KAssert expr+", "KSkip", "KIf expr+ block+", "KIf expr+ block+ block+", "KWhile expr+ block+")
		if d < deepest {
			put("block", d, "KBlock statements+")
		} else {
			put("block", d, "KBlock")
		}
		put("expr", d, "KNum", "KBool", "KRead", "KLoad expr+", "KUnary expr+", "KBinary expr+ expr+")
	}
	g["tree"] = [][]string{{"declarations1", "statements1"}}
	return g
}

var kindNames = strings.Fields("KVar KArray KAssign KStore KInput KAssert KSkip KIf KWhile KBlock KNum KBool KRead KLoad KUnary KBinary")

// P3.2: all lists up to a length that a tree may begin with, and each node behind them that can't stand there; with the Depths from below 1 up to far too great.
func TestEveryShortList(t *testing.T) {
	r := newReading(treesGrammar(8), "tree")
	nodes := samples()
	var list []api.Node
	var deeper func(left int)
	deeper = func(left int) {
		if r.whole() {
			wantShape(t, list, api.OK, 0)
		} else {
			wantShape(t, list, api.ErrShape, len(list))
		}
		for k, name := range kindNames {
			for depth := -1; depth <= 7; depth++ {
				n := nodes[k]
				n.Depth = depth
				list = append(list, n)
				if !r.take(name + strconv.Itoa(depth)) {
					wantShape(t, list, api.ErrShape, len(list)-1)
				} else {
					if left > 0 {
						deeper(left - 1)
					}
					r.back()
				}
				list = list[:len(list)-1]
			}
		}
	}
	deeper(4)
}

// P3.2: longer lists, by chance: where each node that is tried can stand or not.
func TestLongLists(t *testing.T) {
	c := rand.New(rand.NewSource(32))
	g := treesGrammar(9)
	nodes := samples()
	longest := 0
	for range 100 {
		r := newReading(g, "tree")
		var list []api.Node
		for tries := 0; tries < 600 && len(list) < 40; tries++ {
			k := 2 + c.Intn(14)
			n := nodes[k]
			n.Depth = 1 + c.Intn(8)
			list = append(list, n)
			switch {
			case !r.take(kindNames[k] + strconv.Itoa(n.Depth)):
				wantShape(t, list, api.ErrShape, len(list)-1)
				list = list[:len(list)-1]
			case r.whole():
				wantShape(t, list, api.OK, 0)
			default:
				wantShape(t, list, api.ErrShape, len(list))
			}
		}
		longest = max(longest, len(list))
	}
	if longest < 40 {
		t.Errorf("the longest list has %d nodes", longest)
	}
}

// P3.2: what Shape takes is a tree of some text: written down, it is read as the same list, At aside.
func TestWhatShapeTakesIsATree(t *testing.T) {
	c := rand.New(rand.NewSource(33))
	nodes := samples()
	taken := 0
	for range 300 {
		var list []api.Node
		for tries := 0; tries < 400 && len(list) < 60; tries++ {
			n := nodes[c.Intn(16)]
			n.Depth = 1 + c.Intn(10)
			if code, at := Shape(append(list, n)); code == api.OK || at == len(list)+1 {
				list = append(list, n)
			}
			if code, _ := Shape(list); code == api.OK {
				taken++
				readAgain(t, list)
			}
		}
	}
	if taken < 5000 {
		t.Errorf("%d lists were taken", taken)
	}
}

func readAgain(t *testing.T, list []api.Node) {
	t.Helper()
	text := written(list)
	got, err := Parse(text)
	same := func(a, b api.Node) bool { a.At, b.At = 0, 0; return a == b }
	if err != nil || !slices.EqualFunc(got, list, same) {
		t.Fatalf("P3.2: Shape takes %v, but %q is %v, %v", list, text, got, err)
	}
}

// written is a tree's text, all operands in brackets.
func written(list []api.Node) string {
	var node func() string
	next := 0
	rest := func(depth int) string {
		var b strings.Builder
		for next < len(list) && list[next].Depth == depth {
			b.WriteString(node() + " ")
		}
		return b.String()
	}
	node = func() string {
		n := list[next]
		next++
		switch n.Kind {
		case api.KVar:
			return "var " + n.Name + ";"
		case api.KArray:
			return "array " + n.Name + "[" + strconv.FormatInt(n.Num, 10) + "];"
		case api.KAssign:
			return n.Name + ":=" + node() + ";"
		case api.KStore:
			return n.Name + "[" + node() + "]:=" + node() + ";"
		case api.KInput:
			return "input " + n.Name + ";"
		case api.KAssert:
			return "assert " + node() + ";"
		case api.KSkip:
			return "skip;"
		case api.KIf:
			text := "if " + node() + node()
			if next < len(list) && list[next].Depth == n.Depth+1 {
				text += "else" + node()
			}
			return text
		case api.KWhile:
			return "while " + node() + node()
		case api.KBlock:
			return "{" + rest(n.Depth+1) + "}"
		case api.KNum:
			return strconv.FormatInt(n.Num, 10)
		case api.KBool:
			return []string{"false", "true"}[n.Num]
		case api.KRead:
			return n.Name
		case api.KLoad:
			return n.Name + "[" + node() + "]"
		case api.KUnary:
			return signs[n.Op] + "(" + node() + ")"
		}
		return "(" + node() + ")" + signs[n.Op] + "(" + node() + ")"
	}
	return rest(1)
}

// P3.2: 300 nodes may be; of more none is looked at.
func TestShapeOfManyNodes(t *testing.T) {
	many := make([]api.Node, 400)
	for i := range many {
		many[i] = bare(1, api.KSkip, 0)
	}
	wantShape(t, many[:300], api.OK, 0)
	wantShape(t, many[:301], api.ErrMany, 300)
	wantShape(t, many, api.ErrMany, 300)
	many[0].Depth = 7
	wantShape(t, many[:300], api.ErrShape, 0)
	wantShape(t, many[:301], api.ErrMany, 300)
	many[0].Depth = 1
	many[299] = named(1, api.KAssign, "x", 0)
	wantShape(t, many[:300], api.ErrShape, 300)
	many[299] = bare(1, api.KBlock, 0)
	wantShape(t, many[:300], api.ErrShape, 299)
	wantShape(t, make([]api.Node, 301), api.ErrMany, 300)
}

// chain is an assertion and operators below each other, the deepest of a Depth.
func chain(deepest int) []api.Node {
	list := []api.Node{bare(1, api.KAssert, 0)}
	for d := 2; d <= deepest; d++ {
		list = append(list, unary(d, api.OpNot, 0))
	}
	return list
}

// nest is ifs within each other, the innermost block of a Depth (an even one).
func nest(deepest int) []api.Node {
	var list []api.Node
	for d := 1; d < deepest; d += 2 {
		list = append(list, bare(d, api.KIf, 0), valued(d+1, api.KBool, 1, 0), bare(d+1, api.KBlock, 0))
	}
	return list
}

// P3.2: Depths of 24 and 25; a node that can't stand there is that first, however deep it is.
func TestShapeOfDeepNodes(t *testing.T) {
	wantShape(t, append(chain(23), number(24, 1, 0)), api.OK, 0)
	wantShape(t, chain(24), api.ErrShape, 24)
	wantShape(t, append(chain(24), number(25, 1, 0)), api.ErrDeep, 24)
	wantShape(t, chain(26), api.ErrDeep, 24)
	wantShape(t, append(chain(24), number(26, 1, 0)), api.ErrShape, 24)
	wantShape(t, append(chain(24), number(math.MaxInt, 1, 0)), api.ErrShape, 24)
	wantShape(t, append(chain(24), number(25, -1, 0)), api.ErrShape, 24)
	wantShape(t, append(chain(24), bare(25, api.KSkip, 0)), api.ErrShape, 24)
	wantShape(t, append(chain(24), bare(25, api.KBlock, 0)), api.ErrShape, 24)
	wantShape(t, append(chain(24), number(24, 1, 0)), api.ErrShape, 24)
	wantShape(t, append(append(chain(23), number(24, 1, 0)), number(25, 1, 0)), api.ErrShape, 24)
	wantShape(t, nest(24), api.OK, 0)
	wantShape(t, append(nest(24), bare(24, api.KBlock, 0)), api.OK, 0)
	wantShape(t, append(nest(24), bare(25, api.KSkip, 0)), api.ErrDeep, 36)
	wantShape(t, append(nest(24), bare(25, api.KSkip, 0), bare(1, api.KBlock, 0)), api.ErrDeep, 36)
	wantShape(t, append(nest(24), named(25, api.KVar, "x", 0)), api.ErrShape, 36)
	wantShape(t, append(nest(24), bare(26, api.KSkip, 0)), api.ErrShape, 36)
	wantShape(t, append(nest(22), bare(23, api.KSkip, 0), bare(22, api.KBlock, 0), named(23, api.KInput, "x", 0), bare(22, api.KBlock, 0)), api.ErrShape, 36)
}

// P3.2: a block is over as soon as a node of at most its Depth stands there, and an if with it.
func TestBlocksThatHaveEnded(t *testing.T) {
	loop := []api.Node{bare(1, api.KWhile, 0), valued(2, api.KBool, 1, 0), bare(2, api.KBlock, 0)}
	inner := append(slices.Clone(loop), bare(3, api.KIf, 0), valued(4, api.KBool, 1, 0), bare(4, api.KBlock, 0))
	with := func(list []api.Node, more ...api.Node) []api.Node { return append(slices.Clone(list), more...) }
	wantShape(t, with(loop, bare(1, api.KSkip, 0), bare(3, api.KSkip, 0)), api.ErrShape, 4)
	wantShape(t, with(loop, bare(2, api.KSkip, 0)), api.ErrShape, 3)
	wantShape(t, with(loop, bare(2, api.KBlock, 0)), api.ErrShape, 3)
	wantShape(t, with(inner, bare(4, api.KBlock, 0)), api.OK, 0)
	wantShape(t, with(inner, bare(5, api.KSkip, 0), bare(4, api.KBlock, 0), bare(5, api.KSkip, 0), bare(3, api.KSkip, 0)), api.OK, 0)
	wantShape(t, with(inner, bare(3, api.KSkip, 0), bare(4, api.KBlock, 0)), api.ErrShape, 7)
	wantShape(t, with(inner, bare(1, api.KSkip, 0), bare(4, api.KBlock, 0)), api.ErrShape, 7)
	wantShape(t, with(inner, bare(3, api.KSkip, 0), bare(5, api.KSkip, 0)), api.ErrShape, 7)
	wantShape(t, with(inner, bare(2, api.KBlock, 0)), api.ErrShape, 6)
	wantShape(t, with(inner, bare(4, api.KBlock, 0), bare(4, api.KBlock, 0)), api.ErrShape, 7)
}

// P3.4: a list that is handed in stays, with the room behind it.
func TestListsStay(t *testing.T) {
	for _, n := range []int{0, 1, 7, 14, 22} {
		room := append(around(), around()...)
		room = append(room, api.Node{Depth: 9, Name: "behind", Num: -1})
		kept := slices.Clone(room)
		list := room[:n]
		first, at := Shape(list)
		again, atAgain := Shape(list)
		if !slices.Equal(room, kept) || first != again || at != atAgain {
			t.Errorf("P3.4: Shape of %d nodes changed what it was handed, or its mind", n)
		}
	}
}

// P3.4: lists of any fields.
func TestShapeOfAnything(t *testing.T) {
	c := rand.New(rand.NewSource(34))
	any := func() int {
		return []int{math.MinInt, -2, -1, 0, 1, 2, 3, 4, 5, c.Intn(20), c.Intn(20), 24, 25, math.MaxInt}[c.Intn(14)]
	}
	for range 20000 {
		list := make([]api.Node, c.Intn(6))
		for i := range list {
			list[i] = api.Node{Depth: any(), Kind: api.NodeKind(any()), Num: int64(any()), Op: api.Op(any()), At: any()}
			if c.Intn(2) == 0 {
				list[i].Name = "x"
			}
		}
		code, at := Shape(list)
		if code == api.OK && at != 0 || code != api.OK && code != api.ErrShape && code != api.ErrDeep || at < 0 || at > len(list) {
			t.Fatalf("P3.2: Shape(%v) = %v, %d", list, code, at)
		}
	}
}
