package print

import (
	"strings"
	"testing"

	"winnow/api"
)

// The chapter's words on levels, said a second time.

func levelOf(n api.Node) int {
	switch {
	case n.Kind == api.KUnary:
		return 6
	case n.Kind != api.KBinary:
		return 7
	}
	return map[api.Op]int{
		api.OpOr: 1, api.OpAnd: 2,
		api.OpLt: 3, api.OpLe: 3, api.OpGt: 3, api.OpGe: 3, api.OpEq: 3, api.OpNe: 3,
		api.OpAdd: 4, api.OpSub: 4, api.OpMul: 5, api.OpDiv: 5, api.OpRem: 5,
	}[n.Op]
}

// wanted is the level that a node wants of what it holds, first and second.
func wanted(n api.Node) [2]int {
	level := levelOf(n)
	switch {
	case n.Kind == api.KUnary:
		return [2]int{6, 6}
	case n.Kind != api.KBinary:
		return [2]int{1, 1}
	case level == 3:
		return [2]int{4, 4}
	}
	return [2]int{level, level + 1}
}

// tree is a node with what it holds.
type tree struct {
	node  api.Node
	holds []tree
}

func num(v int64) tree          { return tree{node: api.Node{Kind: api.KNum, Num: v}} }
func truthOf(v int64) tree      { return tree{node: api.Node{Kind: api.KBool, Num: v}} }
func read(name string) tree     { return tree{node: api.Node{Kind: api.KRead, Name: name}} }
func load(index tree) tree      { return tree{api.Node{Kind: api.KLoad, Name: "a"}, []tree{index}} }
func assign(value tree) tree    { return tree{api.Node{Kind: api.KAssign, Name: "x"}, []tree{value}} }
func un(op api.Op, x tree) tree { return tree{api.Node{Kind: api.KUnary, Op: op}, []tree{x}} }
func bin(op api.Op, x, y tree) tree {
	return tree{api.Node{Kind: api.KBinary, Op: op}, []tree{x, y}}
}

// flat is a list of trees as nodes.
func flat(trees []tree, depth int) []api.Node {
	var ns []api.Node
	for _, tr := range trees {
		n := tr.node
		n.Depth = depth
		ns = append(append(ns, n), flat(tr.holds, depth+1)...)
	}
	return ns
}

// sameTree compares, At aside.
func sameTree(one, other []api.Node) bool {
	if len(one) != len(other) {
		return false
	}
	for i := range one {
		n, m := one[i], other[i]
		n.At, m.At = 0, 0
		if n != m {
			return false
		}
	}
	return true
}

// wantExpression holds the text of an expression, as it is assigned, against a text, and reads it back.
func wantExpression(t *testing.T, of tree, want string) {
	t.Helper()
	ns := flat([]tree{assign(of)}, 1)
	s, code := Text(ns)
	if s != "x := "+want+";\n" || code != api.OK {
		t.Fatalf("P5.1: %q, %v, want %q", s, code, want)
	}
	if !sameTree(mustTree(t, s), ns) {
		t.Fatalf("P5.2: %q isn't read back as its tree", s)
	}
}

func binaries() []api.Op {
	var ops []api.Op
	for op := api.OpAdd; op <= api.OpOr; op++ {
		ops = append(ops, op)
	}
	return ops
}

// bracketed is a text in brackets, if they are asked for.
func bracketed(text string, asked bool) string {
	if asked {
		return "(" + text + ")"
	}
	return text
}

// P5.1, P5.2: each operator beside each other, as its left and as its right operand.
func TestOperatorsBesideOthers(t *testing.T) {
	for _, outer := range binaries() {
		wants := wanted(api.Node{Kind: api.KBinary, Op: outer})
		for _, inner := range binaries() {
			level := levelOf(api.Node{Kind: api.KBinary, Op: inner})
			held, text := bin(inner, read("y"), num(1)), "y "+sign(inner)+" 1"
			left, right := bracketed(text, level < wants[0]), bracketed(text, level < wants[1])
			between := " " + sign(outer) + " "
			wantExpression(t, bin(outer, held, read("z")), left+between+"z")
			wantExpression(t, bin(outer, read("z"), held), "z"+between+right)
			wantExpression(t, bin(outer, held, held), left+between+right)
		}
	}
}

// P5.1: the brackets of some pairs, written out.
func TestBracketsWrittenOut(t *testing.T) {
	for _, line := range []string{
		"x := 1 + 2 + 3;", "x := 1 + (2 + 3);", "x := 1 * 2 * 3;", "x := 1 * (2 * 3);", "x := 1 / 2 * 3 % 4;", "x := 1 / (2 * 3);", "x := 1 + 2 - 3;", "x := 1 + (2 - 3);",
		"x := 1 * 2 + 3 * 4;", "x := (1 + 2) / (3 - 4);", "x := 1 + 2 < 3 * 4;", "x := (1 < 2) + 3;", "x := 1 + (2 < 3);", "x := (1 < 2) < 3;", "x := 1 < (2 < 3);", "x := (1 == 2) != (3 >= 4);",
		"x := 1 < 2 && 3 < 4;", "x := (1 && 2) < 3;", "x := 1 < (2 && 3);", "x := 1 && 2 && 3;", "x := 1 && (2 && 3);", "x := 1 && 2 || 3 && 4;", "x := (1 || 2) && (3 || 4);", "x := 1 || 2 || 3;", "x := 1 || (2 || 3);",
		"x := !(1 || 2);", "x := -(1 + 2);", "x := !(1 < 2);", "x := !p && q;", "x := !p < q;", "x := (1 || 2) * 3;", "x := a[1 || 2] * 3;", "x := -a[0];", "x := -a[-1] - -1;",
	} {
		wantItself(t, line)
	}
}

// P5.1: unary operators of unary ones, of all atoms and of brackets, and as operands.
func TestUnaryOperators(t *testing.T) {
	unaries := []api.Op{api.OpNeg, api.OpNot}
	atoms := map[string]tree{"0": num(0), "9223372036854775807": num(1<<63 - 1), "true": truthOf(1), "false": truthOf(0), "y": read("y"), "a[y]": load(read("y")), "a[y + 1]": load(bin(api.OpAdd, read("y"), num(1)))}
	for _, outer := range unaries {
		for text, atom := range atoms {
			wantExpression(t, atom, text)
			wantExpression(t, un(outer, atom), sign(outer)+text)
			for _, op := range binaries() {
				wantExpression(t, bin(op, un(outer, atom), atom), sign(outer)+text+" "+sign(op)+" "+text)
				wantExpression(t, bin(op, atom, un(outer, atom)), text+" "+sign(op)+" "+sign(outer)+text)
			}
		}
		for _, inner := range unaries {
			wantExpression(t, un(outer, un(inner, read("y"))), sign(outer)+sign(inner)+"y")
			wantExpression(t, un(outer, un(inner, un(outer, num(1)))), sign(outer)+sign(inner)+sign(outer)+"1")
		}
		for _, op := range binaries() {
			of := bin(op, un(outer, num(1)), num(2))
			text := "(" + sign(outer) + "1 " + sign(op) + " 2)"
			wantExpression(t, un(outer, of), sign(outer)+text)
			for _, inner := range unaries {
				wantExpression(t, un(outer, un(inner, of)), sign(outer)+sign(inner)+text)
			}
		}
	}
}

// P5.1: no brackets at the places that want the lowest level, whatever stands there.
func TestPlacesThatWantNoBrackets(t *testing.T) {
	for _, op := range binaries() {
		text := "y " + sign(op) + " 1"
		for _, place := range []string{"x := E;", "a[E] := 0;", "a[0] := E;", "a[E] := E;", "assert E;", "if E {\n}", "while E {\n}", "x := a[E];", "x := -a[E];"} {
			line := strings.ReplaceAll(place, "E", text)
			wantItself(t, line)
			wantText(t, strings.ReplaceAll(place, "E", "(("+text+"))"), line+"\n")
		}
	}
}

// expressionsOf are all with so many operators, from left to right of any kind.
func expressionsOf(operators int) []tree {
	if operators == 0 {
		return []tree{read("y")}
	}
	var all []tree
	for _, op := range []api.Op{api.OpNeg, api.OpNot} {
		for _, x := range expressionsOf(operators - 1) {
			all = append(all, un(op, x))
		}
	}
	for left := range operators {
		for _, x := range expressionsOf(left) {
			for _, y := range expressionsOf(operators - 1 - left) {
				// One operator of a level stands for the others here: the pairs are asked above.
				for _, op := range []api.Op{api.OpSub, api.OpRem, api.OpGe, api.OpAnd, api.OpOr} {
					all = append(all, bin(op, x, y))
				}
			}
		}
	}
	return all
}

// P5.1, P5.2: all small expressions.
func TestAllSmallExpressions(t *testing.T) {
	for operators := range 4 {
		for _, of := range expressionsOf(operators) {
			wantExpression(t, of, plain.expression(of, 1))
		}
	}
}
