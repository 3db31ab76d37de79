package check

import (
	"math"
	"slices"
	"strconv"
	"strings"
	"testing"

	"winnow/api"
)

// P4.1: the chapter's examples.
func TestExamplesOfFaults(t *testing.T) {
	wantRefused(t, "var x; var x;", api.ErrTwice, 7)
	wantRefused(t, "array a[0];", api.ErrLen, 0)
	wantRefused(t, "array a[17];", api.ErrLen, 0)
	wantRefused(t, "x := 1;", api.ErrNone, 0)
	wantRefused(t, "var x; x[0] := 1;", api.ErrSort, 7)
	wantRefused(t, "array a[1]; a := 1;", api.ErrSort, 12)
	wantRefused(t, "var x; x := true;", api.ErrSort, 12)
	wantRefused(t, "var x; if x { }", api.ErrSort, 10)
	wantRefused(t, "var x; assert x < (x < 1);", api.ErrSort, 21)
}

// P4.1: a Name that is declared twice, by the same kind and by the other.
func TestTwice(t *testing.T) {
	declared := map[string]string{"a scalar": "var x;", "an array": "array x[1];"}
	for one, first := range declared {
		for other, second := range declared {
			t.Run(one+", "+other, func(t *testing.T) {
				wantRefused(t, first+second, api.ErrTwice, len(first))
				between := first + "var y; array z[2];"
				wantRefused(t, between+second, api.ErrTwice, len(between))
			})
		}
	}
	wantRefused(t, "var x; var y; var y; var x;", api.ErrTwice, 14)
}

// P4.1: the lengths that an array may have.
func TestLengths(t *testing.T) {
	for length := range 20 {
		text := "array a[" + strconv.Itoa(length) + "];"
		if length < 1 || length > 16 {
			wantRefused(t, text, api.ErrLen, 0)
			continue
		}
		if p := mustText(t, text); !slices.Equal(p.Arrays, []api.Array{{Name: "a", Len: length}}) {
			t.Errorf("P4.1: the array of %q is %v", text, p.Arrays)
		}
	}
	// Lengths whose lowest bits would do.
	for _, length := range []string{"256", "257", "65537", "4294967297", "9223372036854775807"} {
		wantRefused(t, "array b[1]; array a["+length+"];", api.ErrLen, 12)
	}
}

// declarations are many: var v0; var v1; ..
func declarations(how func(i string) string, n int) string {
	all := ""
	for i := range n {
		all += how(strconv.Itoa(i))
	}
	return all
}

func scalars(n int) string {
	return declarations(func(i string) string { return "var v" + i + ";" }, n)
}

func arrays(n int) string {
	return declarations(func(i string) string { return "array a" + i + "[2];" }, n)
}

// P4.1: as many scalars and arrays as may be, and one more; neither counts for the other.
func TestManyDeclarations(t *testing.T) {
	p := mustText(t, scalars(8)+arrays(3)+"v7 := a2[v6];")
	if !slices.Equal(p.Scalars, []string{"v0", "v1", "v2", "v3", "v4", "v5", "v6", "v7"}) || !slices.Equal(p.Symbols, []int{0, 1, 2, 3, 4, 5, 6, 7, 0, 1, 2, 7, 2, 6}) {
		t.Errorf("P4.1: the most declarations: %v", p)
	}
	wantTaken(t, arrays(3)+scalars(8))
	wantRefused(t, scalars(9), api.ErrScalars, len(scalars(8)))
	wantRefused(t, arrays(4), api.ErrArrays, len(arrays(3)))
	wantRefused(t, arrays(3)+scalars(9), api.ErrScalars, len(arrays(3)+scalars(8)))
	wantRefused(t, scalars(8)+arrays(4), api.ErrArrays, len(scalars(8)+arrays(3)))
	wantRefused(t, scalars(12)+arrays(5), api.ErrScalars, len(scalars(8)))
}

// P4.1: as many sites as may be, and one more, whichever they are.
func TestManySites(t *testing.T) {
	first := "var x;array a[1];"
	thirteenth := map[string]int{
		"assert true;": 0, "a[0]:=1;": 0, "x:=-a[0];": 4, "x:=1/1;": 4, "x:=1%1;": 4, "if 1/1<1{}": 4, "while 1%1<1{}": 7, "a[a[0]]:=1/1;": 0,
	}
	for text := range thirteenth {
		sites := len(mustText(t, first+text).Sites)
		most := first + strings.Repeat(text, 12/sites)
		if p := mustText(t, most); len(p.Sites) != 12 || !Good(p) {
			t.Errorf("P4.1: %q has the sites %v", most, p.Sites)
		}
		for next, place := range thirteenth {
			wantRefused(t, most+next, api.ErrSites, len(most)+place)
		}
	}
	eleven := first + strings.Repeat("assert true;", 11)
	wantRefused(t, eleven+"a[a[0]]:=1/1;", api.ErrSites, len(eleven)+2)
	ten := first + strings.Repeat("assert true;", 10)
	wantRefused(t, ten+"a[a[0]]:=1/1;", api.ErrSites, len(ten)+10)
	wantTaken(t, eleven+"assert true;x:=1+1-1*-1;input x;skip;if x==1{}while x<1{}")
}

// P4.1: a name that isn't declared, and one of the other thing, at each node that names.
func TestNamesOfNothingAndOfTheOther(t *testing.T) {
	for _, c := range []struct {
		text  string
		place int // of the node that names v
		array bool
	}{
		{"v := 1;", 0, false},
		{"input v;", 0, false},
		{"assert v == 1;", 7, false},
		{"v[0] := 1;", 0, true},
		{"assert v[0] == 1;", 7, true},
		{"if true { v := 1; }", 10, false},
		{"while true { v[1] := 1; }", 13, true},
	} {
		one, other := "var v; ", "array v[1]; "
		if c.array {
			one, other = other, one
		}
		wantTaken(t, one+c.text)
		wantRefused(t, other+c.text, api.ErrSort, len(other)+c.place)
		wantRefused(t, c.text, api.ErrNone, c.place)
		wantRefused(t, "var w; array u[1]; "+c.text, api.ErrNone, 19+c.place)
	}
}

// sample is an expression, and where in it the node's own first byte stands.
type sample struct {
	text string
	own  int
}

func numbers() []sample {
	return []sample{{"1", 0}, {"0", 0}, {"9223372036854775807", 0}, {"x", 0}, {"a[0]", 0}, {"-1", 0}, {"1+1", 1}, {"1-1", 1}, {"1*1", 1}, {"1/1", 1}, {"1%1", 1}}
}

func conditions() []sample {
	return []sample{{"true", 0}, {"false", 0}, {"!true", 0}, {"1<1", 1}, {"1<=1", 1}, {"1>1", 1}, {"1>=1", 1}, {"1==1", 1}, {"1!=1", 1}, {"true&&true", 4}, {"true||true", 4}}
}

// P4.1: each place that wants a number or a condition, given each expression of both sorts.
func TestSorts(t *testing.T) {
	wantNumbers := []string{"x := (@);", "a[(@)] := 1;", "a[0] := (@);", "x := a[(@)];", "x := -(@);", "if true { x := (@); }"}
	wantConditions := []string{"assert (@);", "if (@) { }", "if (@) { } else { }", "while (@) { }", "assert !(@);", "while true { assert (@); }"}
	for _, op := range []string{"+", "-", "*", "/", "%"} {
		wantNumbers = append(wantNumbers, "x := (@) "+op+" 1;", "x := 1 "+op+" (@);")
	}
	for _, op := range []string{"<", "<=", ">", ">=", "==", "!="} {
		wantNumbers = append(wantNumbers, "assert (@) "+op+" 1;", "assert 1 "+op+" (@);")
	}
	for _, op := range []string{"&&", "||"} {
		wantConditions = append(wantConditions, "assert (@) "+op+" true;", "assert true "+op+" (@);")
	}
	ask := func(places []string, right, wrong []sample) {
		for _, place := range places {
			text := "var x; array a[1]; " + place
			for _, s := range right {
				wantTaken(t, strings.Replace(text, "@", s.text, 1))
			}
			for _, s := range wrong {
				wantRefused(t, strings.Replace(text, "@", s.text, 1), api.ErrSort, strings.Index(text, "@")+s.own)
			}
		}
	}
	ask(wantNumbers, numbers(), conditions())
	ask(wantConditions, conditions(), numbers())
}

// P4.1: the wanted sort is that of the node which holds the expression, not of one that stands ahead.
func TestSortsBehindOthers(t *testing.T) {
	wantTaken(t, "var x; assert -(x + 1) < x && !(x < 1);")
	wantTaken(t, "var x; array a[1]; if a[x] == 1 { a[x] := x; } else { while !(true && x < a[0]) { x := a[a[0]]; } }")
	wantRefused(t, "var x; assert x < 1 && x;", api.ErrSort, 23)
	wantRefused(t, "var x; array a[1]; a[x] := x < 1;", api.ErrSort, 29)
	wantRefused(t, "var x; while x < 1 { x := x; if x { } }", api.ErrSort, 32)
	wantRefused(t, "var x; if true { skip; } else { x := -x + !true; }", api.ErrSort, 42)
}

// P4.1: of a node's faults the first.
func TestTheFirstOfANodesFaults(t *testing.T) {
	full := "var x;array a[1];" + strings.Repeat("assert true;", 12)
	for _, c := range []struct {
		text string
		code api.Errno
		at   int
	}{
		{"var x;array x[0];", api.ErrTwice, 6},
		{"array x[1];array x[17];", api.ErrTwice, 11},
		{scalars(8) + "var v3;", api.ErrTwice, len(scalars(8))},
		{arrays(3) + "array a1[1];", api.ErrTwice, len(arrays(3))},
		{arrays(3) + "array a1[0];", api.ErrTwice, len(arrays(3))},
		{arrays(3) + "array b[0];", api.ErrLen, len(arrays(3))},
		{arrays(3) + "array b[17];", api.ErrLen, len(arrays(3))},
		{"assert y;", api.ErrNone, 7},
		{"assert y[0];", api.ErrNone, 7},
		{"array a[1];if a{}", api.ErrSort, 14},
		{full + "y[0]:=1;", api.ErrNone, len(full)},
		{full + "x:=y[0];", api.ErrNone, len(full) + 3},
		{full + "x[0]:=1;", api.ErrSort, len(full)},
		{full + "x:=x[0];", api.ErrSort, len(full) + 3},
		{full + "if a[0]{}", api.ErrSort, len(full) + 3},
		{full + "while 1/1{}", api.ErrSort, len(full) + 7},
		{full + "while 1%1{}", api.ErrSort, len(full) + 7},
	} {
		wantRefused(t, c.text, c.code, c.at)
	}
}

// P4.1: of the nodes that have a fault the first in the list, which isn't always the first in the text.
func TestTheFirstNodeWithAFault(t *testing.T) {
	for _, c := range []struct {
		text string
		code api.Errno
		at   int
	}{
		{"array a[0];var a;", api.ErrLen, 0},
		{"var a;var a;array b[0];", api.ErrTwice, 6},
		{"var x;var x;x:=true;", api.ErrTwice, 6},
		{"x:=true;", api.ErrNone, 0},
		{"var x;x:=y+true;", api.ErrNone, 9},
		{"var x;x:=true+y;", api.ErrSort, 9},
		{"var x;x:=y<1;", api.ErrSort, 10},
		{"var x;x:=true<1;", api.ErrSort, 13},
		{"array a[1];a[true]:=y;", api.ErrSort, 13},
		{"array a[1];a[y]:=true;", api.ErrNone, 13},
		{"y[true]:=1;", api.ErrNone, 0},
		{strings.Repeat("assert true;", 12) + "assert y;", api.ErrSites, 144},
		{strings.Repeat("assert true;", 12) + "input y;assert 1;", api.ErrNone, 144},
		{"if 1{y:=1;}", api.ErrSort, 3},
		{"if true{y:=1;}else{y[0]:=1;}", api.ErrNone, 8},
	} {
		wantRefused(t, c.text, c.code, c.at)
	}
}

// P4.1: lengths that no text has.
func TestTheGreatestLength(t *testing.T) {
	for _, length := range []int64{0, 17, math.MaxInt64, math.MaxInt64 - 1, 1 << 32, 1<<32 + 1, 1 << 62} {
		p, err := Program([]api.Node{{Depth: 1, Kind: api.KArray, Name: "a", Num: length}})
		wantFault(t, "P4.1: an array of "+strconv.FormatInt(length, 10), p, err, api.ErrLen, 0)
	}
}
