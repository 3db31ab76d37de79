package print

import (
	"math"
	"slices"
	"strings"
	"testing"

	"winnow/api"
	"winnow/parse"
)

const allSigns = "- ! + - * / % < <= > >= == != && ||"

// sign is how an operator is written.
func sign(op api.Op) string { return strings.Fields(allSigns)[op-api.OpNeg] }

func mustTree(t *testing.T, text string) []api.Node {
	t.Helper()
	ns, err := parse.Parse(text)
	if err != nil {
		t.Fatalf("%q is no program: %v", text, err)
	}
	return ns
}

// wantText holds Text of a text's tree against a text, which is printed as itself then.
func wantText(t *testing.T, text, want string) {
	t.Helper()
	for _, from := range []string{text, want} {
		if s, code := Text(mustTree(t, from)); s != want || code != api.OK {
			t.Errorf("P5.1: Text of the tree of %q = %q, %v, want %q", from, s, code, want)
		}
	}
}

// wantItself is for a text that is printed as itself, with the line ended.
func wantItself(t *testing.T, line string) {
	t.Helper()
	wantText(t, line, line+"\n")
}

func wantCode(t *testing.T, what string, ns []api.Node, want api.Errno) {
	t.Helper()
	if s, code := Text(ns); s != "" || code != want {
		t.Errorf("P5.1: %s: a text of %d bytes, %v, want none and %v", what, len(s), code, want)
	}
}

// P5.1: the chapter's examples.
func TestExamples(t *testing.T) {
	for _, none := range [][]api.Node{nil, {}} {
		if s, code := Text(none); s != "" || code != api.OK {
			t.Errorf("P5.1: Text of no nodes = %q, %v", s, code)
		}
	}
	wantText(t, "var x;array a[3];x:=1+2*3;", "var x;\narray a[3];\nx := 1 + 2 * 3;\n")
	wantItself(t, "x := (1 + 2) * 3;")
	wantItself(t, "x := 1 - (2 - 3);")
	wantText(t, "x := (1 - 2) - 3;", "x := 1 - 2 - 3;\n")
	wantText(t, "x := ((y));", "x := y;\n")
	wantText(t, "x := - - y * -(z + 1);", "x := --y * -(z + 1);\n")
	wantItself(t, "b := !(x < 1) && (p || q);")
	wantItself(t, "b := (x < 1) == (y < 2);")
	wantItself(t, "x := -(1 * 2);")
	wantText(t, "x := (-1) * 2;", "x := -1 * 2;\n")
	wantText(t, "if x<1{skip;}else{}while true{a[0]:=x;}", "if x < 1 {\n  skip;\n} else {\n}\nwhile true {\n  a[0] := x;\n}\n")
	wantCode(t, "an assignment of nothing", []api.Node{{Depth: 1, Kind: api.KAssign, Name: "x"}}, api.ErrShape)
}

// P5.1: each kind of line alone, whatever stands between the pieces.
func TestEachKindOfLine(t *testing.T) {
	for _, line := range []string{
		"var x;", "array a[0];", "array a[16];", "x := y;", "a[i] := y;", "input x;", "assert true;", "assert false;", "skip;",
		"if p {\n}", "if p {\n} else {\n}", "if p {\n  skip;\n}", "if p {\n  skip;\n} else {\n  input x;\n}", "if p {\n} else {\n  skip;\n}",
		"while p {\n}", "while p {\n  skip;\n  skip;\n}",
		"x := a[a[0]];", "a[a[i]] := a[j];", "x := true;", "assert 7;", "if x + 1 {\n}", "while a[0] {\n}", "a[p || q] := r || s;", "x := a[p || q];",
		"_ := A9_;", "abcdefghijklmnop[ABCDEFGHIJKLMNOP] := Z;",
	} {
		wantItself(t, line)
		spread := strings.NewReplacer(" ", " \t\r\n # some ; words\n ", ";", " ; ", "[", " [ ", "]", " ] ").Replace(line)
		wantText(t, spread, line+"\n")
	}
}

// P5.1: lines stand in order, one for each declaration and statement.
func TestLinesInOrder(t *testing.T) {
	wantText(t, "var y;array b[2];var x;array a[1]; skip; input y; y:=1; b[0]:=1; assert p; if p{} while p{} skip;",
		"var y;\narray b[2];\nvar x;\narray a[1];\nskip;\ninput y;\ny := 1;\nb[0] := 1;\nassert p;\nif p {\n}\nwhile p {\n}\nskip;\n")
	wantText(t, "if p { a[0] := 1; skip; if q { } x := 2; } input x; while r { while s { skip; } assert t; } skip;",
		"if p {\n  a[0] := 1;\n  skip;\n  if q {\n  }\n  x := 2;\n}\ninput x;\nwhile r {\n  while s {\n    skip;\n  }\n  assert t;\n}\nskip;\n")
	wantText(t, "if p { if q { skip; } } else { if r { } else { skip; } }",
		"if p {\n  if q {\n    skip;\n  }\n} else {\n  if r {\n  } else {\n    skip;\n  }\n}\n")
	wantText(t, "if p { if q { } else { } } if r { while s { } } else { }",
		"if p {\n  if q {\n  } else {\n  }\n}\nif r {\n  while s {\n  }\n} else {\n}\n")
}

// around are the ways to stand in a block: the lines ahead, and those behind.
var around = [][2]string{{"if p {\n", "}\n"}, {"while p {\n", "}\n"}, {"if p {\n", "} else {\n}\n"}, {"if p {\n} else {\n", "}\n"}, {"if p {\n  skip;\n} else {\n", "}\n"}, {"skip;\nif p {\n", "}\nskip;\n"}}

// moved is lines with blanks ahead of each.
func moved(lines, blanks string) string {
	if lines == "" {
		return ""
	}
	return blanks + strings.ReplaceAll(strings.TrimSuffix(lines, "\n"), "\n", "\n"+blanks) + "\n"
}

// P5.1: at each depth up to the limit, in each kind of block, and in blocks of changing kinds.
func TestBlocksWithinBlocks(t *testing.T) {
	const deepest = (api.MaxNest - 1) / 2 // blocks around a statement
	innermost := []string{"", "skip;\n", "x := y;\n", "input x;\ninput y;\n", "if q {\n}\n", "if q {\n} else {\n}\n", "while q {\n}\nskip;\n"}
	for kind := range len(around) + 1 {
		for blocks := range deepest + 1 {
			for _, inner := range innermost {
				text := inner
				for i := range blocks {
					way := around[kind%len(around)]
					if kind == len(around) {
						way = around[i%len(around)]
					}
					text = way[0] + moved(text, "  ") + way[1]
				}
				wantText(t, text, text)
				wantText(t, strings.ReplaceAll(text, "  ", ""), text)
			}
		}
	}
	tooDeep := slices.Clone(mustTree(t, strings.Repeat("if p {", deepest+1)+strings.Repeat("}", deepest+1)))
	tooDeep = append(tooDeep, api.Node{Depth: api.MaxNest + 1, Kind: api.KSkip})
	wantCode(t, "a statement that is too deep", tooDeep, api.ErrDeep)
}

// P5.1: an expression at the limit of depth.
func TestDeepExpressions(t *testing.T) {
	for _, op := range []string{"-", "!"} {
		wantItself(t, "x := "+strings.Repeat(op, api.MaxNest-2)+"y;")
	}
	wantItself(t, "x := "+strings.Repeat("a[", api.MaxNest-2)+"y"+strings.Repeat("]", api.MaxNest-2)+";")
	wantItself(t, "x := y"+strings.Repeat(" - y", api.MaxNest-2)+";")
	wantItself(t, "x := "+strings.Repeat("y - (", api.MaxNest-3)+"y - y"+strings.Repeat(")", api.MaxNest-3)+";")
	wantItself(t, "x := "+strings.Repeat("-(y * ", 11)+"y"+strings.Repeat(")", 11)+";")
	tooDeep := mustTree(t, "x := "+strings.Repeat("!", api.MaxNest-2)+"y;")
	last := &tooDeep[len(tooDeep)-1]
	*last = api.Node{Depth: api.MaxNest, Kind: api.KUnary, Op: api.OpNot}
	wantCode(t, "an expression that is too deep", append(tooDeep, api.Node{Depth: api.MaxNest + 1, Kind: api.KNum}), api.ErrDeep)
}

// P5.1: numbers up to the greatest, and as lengths.
func TestNumbers(t *testing.T) {
	for _, number := range []string{"0", "1", "9", "10", "999999999999999999", "1000000000000000000", "2147483648", "4294967296", "9007199254740993", "9223372036854775806", "9223372036854775807"} {
		wantItself(t, "x := "+number+";")
		wantItself(t, "x := -"+number+";")
		wantItself(t, "array a["+number+"];")
		wantItself(t, "a["+number+"] := "+number+" - "+number+";")
		wantText(t, "x := 000"+number+";", "x := "+number+";\n")
	}
	wantText(t, "x := 00;", "x := 0;\n")
	for _, below := range []int64{-1, math.MinInt64} {
		wantCode(t, "a number below 0", []api.Node{{Depth: 1, Kind: api.KAssign, Name: "x"}, {Depth: 2, Kind: api.KNum, Num: below}}, api.ErrShape)
	}
}

// P5.1: parse.Shape's error goes ahead, of a tree that would be too long too.
func TestListsThatAreNoTrees(t *testing.T) {
	skip := api.Node{Depth: 1, Kind: api.KSkip}
	wantCode(t, "301 nodes", slices.Repeat([]api.Node{skip}, api.MaxNodes+1), api.ErrMany)
	if s, code := Text(slices.Repeat([]api.Node{skip}, api.MaxNodes)); s != strings.Repeat("skip;\n", api.MaxNodes) || code != api.OK {
		t.Errorf("P5.1: 300 nodes: %d bytes, %v", len(s), code)
	}
	for what, ns := range map[string][]api.Node{
		"a statement that stands in nothing":    {{Depth: 2, Kind: api.KSkip}},
		"a declaration behind a statement":      {skip, {Depth: 1, Kind: api.KVar, Name: "x"}},
		"an expression alone":                   {{Depth: 1, Kind: api.KNum}},
		"a block alone":                         {{Depth: 1, Kind: api.KBlock}},
		"an if without a block":                 {{Depth: 1, Kind: api.KIf}, {Depth: 2, Kind: api.KBool}},
		"a third block":                         {{Depth: 1, Kind: api.KIf}, {Depth: 2, Kind: api.KBool}, {Depth: 2, Kind: api.KBlock}, {Depth: 2, Kind: api.KBlock}, {Depth: 2, Kind: api.KBlock}},
		"a second block of a while":             {{Depth: 1, Kind: api.KWhile}, {Depth: 2, Kind: api.KBool}, {Depth: 2, Kind: api.KBlock}, {Depth: 2, Kind: api.KBlock}},
		"a store without a value":               {{Depth: 1, Kind: api.KStore, Name: "a"}, {Depth: 2, Kind: api.KNum}},
		"an operator that is none":              {{Depth: 1, Kind: api.KAssert}, {Depth: 2, Kind: api.KBinary, Op: api.OpOr + 1}, {Depth: 3, Kind: api.KNum}, {Depth: 3, Kind: api.KNum}},
		"an operator below all":                 {{Depth: 1, Kind: api.KAssert}, {Depth: 2, Kind: api.KUnary, Op: -1}, {Depth: 3, Kind: api.KNum}},
		"a number with an operator":             {{Depth: 1, Kind: api.KAssert}, {Depth: 2, Kind: api.KNum, Op: api.OpAdd}},
		"a kind that is none":                   {{Depth: 1, Kind: api.KBinary + 1}},
		"a kind below all":                      {{Depth: 1, Kind: -1}},
		"a name that is a word of the language": {{Depth: 1, Kind: api.KInput, Name: "if"}},
		"a name that is none":                   {{Depth: 1, Kind: api.KInput, Name: "x y"}},
		"a skip with a name":                    {{Depth: 1, Kind: api.KSkip, Name: "x"}},
		"a depth below 0":                       {{Depth: math.MinInt, Kind: api.KSkip}},
		"the greatest depth":                    {{Depth: math.MaxInt, Kind: api.KSkip}},
	} {
		wantCode(t, what, ns, api.ErrShape)
	}
	long := longest(api.MaxSource + 1)
	wantCode(t, "a list that is too long, and no tree", append(slices.Clone(long), api.Node{Depth: 3, Kind: api.KVar, Name: "x"}), api.ErrShape)
	wantCode(t, "a list that is too long, with something wanting", append(slices.Clone(long), api.Node{Depth: 1, Kind: api.KAssert}), api.ErrShape)
}

// longest is a tree whose text has so many bytes, some 7000 to 9000.
func longest(bytes int) []api.Node {
	ns := []api.Node{{Depth: 1, Kind: api.KWhile}, {Depth: 2, Kind: api.KBool}, {Depth: 2, Kind: api.KBlock}, {Depth: 3, Kind: api.KIf}, {Depth: 4, Kind: api.KBool, Num: 1}, {Depth: 4, Kind: api.KBlock}}
	left := bytes - len("while false {\n  if true {\n  }\n}\n")
	const most = len("    input abcdefghijklmnop;\n")
	for left > 2*most {
		ns = append(ns, api.Node{Depth: 5, Kind: api.KInput, Name: "abcdefghijklmnop"})
		left -= most
	}
	for _, part := range []int{left / 2, left - left/2} {
		ns = append(ns, api.Node{Depth: 5, Kind: api.KInput, Name: "abcdefghijklmnop"[:part-len("    input ;\n")]})
	}
	return ns
}

// P5.1: the text has at most MaxSource bytes.
func TestTheLongestTexts(t *testing.T) {
	for bytes := api.MaxSource - 60; bytes <= api.MaxSource; bytes++ {
		ns := longest(bytes)
		s, code := Text(ns)
		if len(s) != bytes || code != api.OK {
			t.Fatalf("P5.1: a text of %d bytes: %d bytes, %v", bytes, len(s), code)
		}
		if again := mustTree(t, s); !sameTree(again, ns) {
			t.Fatalf("P5.2: a text of %d bytes isn't read back as its tree", bytes)
		}
	}
	for bytes := api.MaxSource + 1; bytes <= api.MaxSource+60; bytes++ {
		wantCode(t, "a text that is too long", longest(bytes), api.ErrPrint)
	}
	full := slices.Repeat([]api.Node{{Depth: 23, Kind: api.KInput, Name: "abcdefghijklmnop"}}, api.MaxNodes-33)
	nest := []api.Node{}
	for depth := 1; depth < 23; depth += 2 {
		nest = append(nest, api.Node{Depth: depth, Kind: api.KIf}, api.Node{Depth: depth + 1, Kind: api.KRead, Name: "abcdefghijklmnop"}, api.Node{Depth: depth + 1, Kind: api.KBlock})
	}
	wantCode(t, "the longest text of all", append(nest, full...), api.ErrPrint)
}
