package parse

import (
	"errors"
	"math/rand"
	"strings"
	"testing"

	"winnow/api"
)

// programs is the document's grammar; x stands for a name, 7 for a number.
const programs = `
	program = declarations statements
	declarations = / declarations declaration
	statements = / statements statement
	declaration = var x ; / array x [ 7 ] ;
	statement = x := expr ; / x [ expr ] := expr ; / input x ; / assert expr ; / skip ; / if expr block / if expr block else block / while expr block
	block = { statements }
	expr = and / expr || and
	and = compare / and && compare
	compare = sum / sum < sum / sum <= sum / sum > sum / sum >= sum / sum == sum / sum != sum
	sum = product / sum + product / sum - product
	product = unary / product * unary / product slash unary / product % unary
	unary = - unary / ! unary / atom
	atom = 7 / true / false / x / x [ expr ] / ( expr )
`

var terminals = strings.Fields("var array input assert skip if else while true false x 7 + - * slash % < <= > >= == != && || ! := ( ) [ ] { } ;")

// textOf puts pieces behind one another, a blank between each two, and tells where each begins.
func textOf(pieces []string) (string, []int) {
	var b strings.Builder
	var at []int
	for _, p := range pieces {
		if b.Len() > 0 {
			b.WriteByte(' ')
		}
		at = append(at, b.Len())
		if p == "slash" {
			p = "/"
		}
		b.WriteString(p)
	}
	return b.String(), at
}

// asked holds Parse against a reading that has taken all pieces, but, if last is false, the last one.
func asked(t *testing.T, r *reading, pieces []string, last bool) {
	t.Helper()
	text, at := textOf(pieces)
	nodes, err := Parse(text)
	switch {
	case !last:
		wantRefusal(t, text, nodes, err, api.ErrWant, at[len(at)-1])
	case !r.whole():
		wantRefusal(t, text, nodes, err, api.ErrWant, len(text))
	case err != nil:
		t.Fatalf("P3.1: Parse(%q) = %v, want a tree", text, err)
	default:
		if code, at := Shape(nodes); code != api.OK || at != 0 {
			t.Fatalf("P3.3: Shape of Parse(%q) = %v, %d", text, code, at)
		}
	}
}

func wantRefusal(t *testing.T, text string, nodes []api.Node, err error, code api.Errno, at int) {
	t.Helper()
	var f *api.Fault
	if !errors.As(err, &f) || f.Code != code || f.At != at || f.Of != api.ErrReject || nodes != nil {
		t.Fatalf("P3.1: Parse(%.200q) = %v, %v, want %v at %d", text, nodes, err, code, at)
	}
}

// P3.1: all rows of pieces up to a length that a program may begin with, and each piece behind them that can't stand there.
func TestEveryShortRowOfPieces(t *testing.T) {
	r := newReading(rulesOf(programs), "program")
	var row []string
	var deeper func(left int)
	deeper = func(left int) {
		asked(t, r, row, true)
		for _, p := range terminals {
			row = append(row, p)
			if !r.take(p) {
				asked(t, r, row, false)
			} else {
				if left > 0 {
					deeper(left - 1)
				}
				r.back()
			}
			row = row[:len(row)-1]
		}
	}
	deeper(4)
}

// P3.1: longer rows, by chance: each piece can stand there, then one that can't.
func TestLongRowsOfPieces(t *testing.T) {
	c := rand.New(rand.NewSource(3))
	g := rulesOf(programs)
	for range 150 {
		r := newReading(g, "program")
		var row []string
		for len(row) < 60 {
			p := terminals[c.Intn(len(terminals))]
			// Few declarations, and brackets and blocks that end, so that much is seen.
			if c.Intn(3) == 0 {
				p = strings.Fields("; } ) ] else x 7")[c.Intn(7)]
			}
			if p == "(" && c.Intn(2) == 0 {
				continue
			}
			row = append(row, p)
			can := r.take(p)
			asked(t, r, row, can)
			if !can {
				row = row[:len(row)-1]
			}
		}
	}
}

// P3.1: what is wrong behind the first piece that can't stand there tells nothing, but for lex's errors.
func TestTheFirstOfTwoRefusals(t *testing.T) {
	for _, c := range []struct {
		text string
		code api.Errno
		at   int
	}{
		{"x y z ; ; }", api.ErrWant, 2},
		{"} ,", api.ErrByte, 2},
		{"} 1x", api.ErrDigits, 2},
		{"x := ; # )\n abcdefghijklmnopq", api.ErrLong, 12},
		{", }", api.ErrByte, 0},
		{"skip; var x; = ", api.ErrByte, 13},
		{"x := 99999999999999999999; ,", api.ErrDigits, 5},
		{"x := 9223372036854775808;", api.ErrDigits, 5},
		{"x = 1;", api.ErrByte, 2},
		{strings.Repeat(" ", api.MaxSource+1), api.ErrLong, api.MaxSource},
		{"}" + strings.Repeat(" ", api.MaxSource), api.ErrLong, api.MaxSource},
		{"," + strings.Repeat(" ", api.MaxSource), api.ErrLong, api.MaxSource},
		{strings.Repeat("skip;", 301) + ",", api.ErrByte, 1505},
		{strings.Repeat("skip;", 301) + "}", api.ErrWant, 1505},
		{strings.Repeat("skip;", 301) + "x", api.ErrWant, 1506},
		{"x := " + strings.Repeat("-", 30) + "y", api.ErrWant, 36},
		{"x := " + strings.Repeat("-", 30) + "y; ;", api.ErrWant, 38},
		{"x := " + strings.Repeat("-", 30) + "y; :", api.ErrByte, 38},
		{"x := " + strings.Repeat("-", 30) + "y;" + strings.Repeat("skip;", 300), api.ErrMany, 37 + 5*268},
		{"x := " + strings.Repeat("-", 22) + "(y + -z);" + "x := " + strings.Repeat("-", 30) + "y;", api.ErrDeep, 28},
	} {
		nodes, err := Parse(c.text)
		wantRefusal(t, c.text, nodes, err, c.code, c.at)
	}
}

// P3.1: the chapter's examples of refusals, and a word of the language wherever a name must stand.
func TestPiecesThatCantStand(t *testing.T) {
	for text, at := range map[string]int{
		"skip; var x;": 6, "x := a < b < c;": 11, "x := ;": 5, "if := 1;": 3, "var while;": 4, "x y": 2, "}": 0, "array a[x];": 8, "if x skip;": 5, "else {}": 0,
		"{ }": 0, ";": 0, "skip;;": 5, "x := (1;": 7, "x := 1);": 6, "x := a == b != c;": 12, "x := (a < b) < c < d;": 17, "x := 1 2;": 7, "x := + 1;": 5, "x := 1 + * 2;": 9,
		"array a[-1];": 8, "array a[1 + 1];": 10, "array a[];": 8, "array a;": 7, "var x[1];": 5, "var x, y;": -1, "var x y;": 6, "var 1;": 4,
		"if x { var y; }": 7, "if x { array y[1]; }": 7, "skip; array a[1];": 6, "if x { } else if y { }": 14, "if x { } else { } else { }": 18, "while x { } else { }": 12, "if x { skip; else { }": 13, "if { }": 3, "while { }": 6, "assert ;": 7,
		"input x[1];": 7, "input 1;": 6, "input x := 1;": 8, "skip skip;": 5, "skip 1;": 5, "1 := x;": 0, "x := y := 1;": 7, "x[1][2] := 3;": 4, "x := a[1][2];": 9, "x[] := 1;": 2, "(x) := 1;": 0, "-x := 1;": 0, "true := 1;": 0, "x := true[0];": 9, "x := 1[0];": 6, "x := !;": 6, "x := ();": 6, "x := a(1);": 6,
	} {
		nodes, err := Parse(text)
		if at < 0 {
			wantRefusal(t, text, nodes, err, api.ErrByte, 5)
			continue
		}
		wantRefusal(t, text, nodes, err, api.ErrWant, at)
	}
	for _, word := range strings.Fields("var array input assert skip if else while true false") {
		for _, ahead := range []string{"var ", "array ", "input ", "skip; input ", "if x { input "} {
			text := ahead + word + ";"
			nodes, err := Parse(text)
			wantRefusal(t, text, nodes, err, api.ErrWant, len(ahead))
		}
		for _, ahead := range []string{"x := ", "x := y + ", "a[", "x := a[", "assert -", "while (", "if x || "} {
			if word == "true" || word == "false" {
				continue
			}
			nodes, err := Parse(ahead + word)
			wantRefusal(t, ahead+word, nodes, err, api.ErrWant, len(ahead))
		}
	}
}

// P3.1: a text that ends too early is refused at its length, blanks and comments counted; each whole program cut off anywhere.
func TestTextsThatEndTooEarly(t *testing.T) {
	for _, text := range []string{
		"x", "x :=", "x := 1", "x := 1 ", "x := 1 # one", "x := 1 +\n", "x := (1 + 2", "x := a[1", "a[", "a[1", "a[1]", "a[1] :=", "var", "var x", "array", "array a", "array a[", "array a[1", "array a[1]", "input", "input x", "assert", "assert x", "skip", "if", "if x", "if x {", "if x { skip; ", "if x { } else", "if x { } else {", "while x { ", "while x { while y { } ", "skip; x",
	} {
		nodes, err := Parse(text)
		wantRefusal(t, text, nodes, err, api.ErrWant, len(text))
	}
	const whole = "var x; array a[2]; if a[x] < 1 && !(x == 0) { x := 1; } else { while x > 0 { input x; } } assert true; "
	r := newReading(rulesOf(programs), "program")
	pieces := strings.Fields(strings.NewReplacer("2", "7", "1", "7", "0", "7", "a[", "x [ ", "[x", "[ x", "array a", "array x", "];", " ] ;", ";", " ; ", "]", " ] ", "[", " [ ", "!(", "! ( ", ")", " ) ").Replace(whole))
	for i, p := range pieces {
		if !r.take(p) {
			t.Fatalf("the whole program's piece %q can't stand there", p)
		}
		asked(t, r, pieces[:i+1], true)
	}
	if !r.whole() {
		t.Error("the whole program isn't whole")
	}
}
