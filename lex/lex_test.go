package lex

import (
	"math"
	"slices"
	"strings"
	"testing"

	"winnow/api"
)

func aWord(text string, at int) api.Tok { return api.Tok{Kind: api.TWord, Text: text, At: at} }
func aSign(text string, at int) api.Tok { return api.Tok{Kind: api.TSign, Text: text, At: at} }
func aNumber(text string, value int64, at int) api.Tok {
	return api.Tok{Kind: api.TNum, Text: text, Num: value, At: at}
}

func wantPieces(t *testing.T, text string, want ...api.Tok) {
	t.Helper()
	got, code, at := Tokens(text)
	if code != api.OK || at != 0 || !slices.Equal(got, want) {
		t.Errorf("P2.1: Tokens(%.60q) = %v, %v, %d, want %v, E0, 0", text, got, code, at, want)
	}
}

func wantFault(t *testing.T, text string, wantCode api.Errno, wantAt int) {
	t.Helper()
	got, code, at := Tokens(text)
	if got != nil || code != wantCode || at != wantAt {
		t.Errorf("P2.1: Tokens(%.60q) = %v, %v, %d, want none, %v, %d", text, got, code, at, wantCode, wantAt)
	}
}

// P2.1: an ordinary program's text.
func TestOrdinaryText(t *testing.T) {
	wantPieces(t, "var x; # one\nif x%2==0{\tx:=a[3]; }\r\n",
		aWord("var", 0), aWord("x", 4), aSign(";", 5),
		aWord("if", 13), aWord("x", 16), aSign("%", 17), aNumber("2", 2, 18), aSign("==", 19), aNumber("0", 0, 21), aSign("{", 22),
		aWord("x", 24), aSign(":=", 25), aWord("a", 27), aSign("[", 28), aNumber("3", 3, 29), aSign("]", 30), aSign(";", 31), aSign("}", 33))
	wantPieces(t, "x:=10;", aWord("x", 0), aSign(":=", 1), aNumber("10", 10, 3), aSign(";", 5))
	wantPieces(t, "-9", aSign("-", 0), aNumber("9", 9, 1))
}

// P2.1: blanks and comments leave nothing behind.
func TestNothing(t *testing.T) {
	for _, text := range []string{
		"", " ", "\t\n\r ", "#", "##", "#\n", " # all of it", "#\n#", "# a\n\n # b\n", "#\xff\x00\x80", "#\r", "#\n\r#a b := 17x",
	} {
		wantPieces(t, text)
	}
}

// P2.1: a comment ends ahead of the byte 10 alone; any bytes may stand in it.
func TestComments(t *testing.T) {
	wantPieces(t, "a#b\nc", aWord("a", 0), aWord("c", 4))
	wantPieces(t, "#\xff\x00\n;", aSign(";", 4))
	wantPieces(t, "a#b\rc", aWord("a", 0))
	wantPieces(t, "1#x", aNumber("1", 1, 0))
	wantPieces(t, "<#\n==#=\n>", aSign("<", 0), aSign("==", 3), aSign(">", 8))
	wantFault(t, "<#\n=", api.ErrByte, 3)
}

// P2.1: which bytes part pieces: the four blanks alone.
func TestBlanks(t *testing.T) {
	for b := range 256 {
		text := "a" + string([]byte{byte(b)}) + "b"
		switch {
		case b == 9 || b == 10 || b == 13 || b == 32:
			wantPieces(t, text, aWord("a", 0), aWord("b", 2))
		case b == '#':
			wantPieces(t, text, aWord("a", 0))
		case b >= '0' && b <= '9' || b >= 'A' && b <= 'Z' || b >= 'a' && b <= 'z' || b == '_':
			wantPieces(t, text, aWord(text, 0))
		case strings.IndexByte("+-*/%<>!()[]{};", byte(b)) >= 0:
			wantPieces(t, text, aWord("a", 0), aSign(text[1:2], 1), aWord("b", 2))
		default:
			wantFault(t, text, api.ErrByte, 1)
		}
	}
}

// P2.1: each byte alone.
func TestEveryByteAlone(t *testing.T) {
	for b := range 256 {
		text := string([]byte{byte(b)})
		switch {
		case b >= '0' && b <= '9':
			wantPieces(t, text, aNumber(text, int64(b-'0'), 0))
		case b >= 'A' && b <= 'Z' || b >= 'a' && b <= 'z' || b == '_':
			wantPieces(t, text, aWord(text, 0))
		case strings.IndexByte("+-*/%<>!()[]{};", byte(b)) >= 0:
			wantPieces(t, text, aSign(text, 0))
		case strings.IndexByte("\t\n\r #", byte(b)) >= 0:
			wantPieces(t, text)
		default:
			wantFault(t, text, api.ErrByte, 0)
		}
	}
}

// P2.1: of each two bytes that are signs of two, or cut short.
func TestEveryTwoSigns(t *testing.T) {
	const bytes = "+-*/%<>!()[]{};=&|:"
	twos := []string{"<=", ">=", "==", "!=", "&&", "||", ":="}
	isOne := func(text string) bool { return strings.Contains("+-*/%<>!()[]{};", text) }
	for i := range len(bytes) {
		for j := range len(bytes) {
			first, second := bytes[i:i+1], bytes[j:j+1]
			switch text := first + second; {
			case slices.Contains(twos, text):
				wantPieces(t, text, aSign(text, 0))
			case !isOne(first):
				wantFault(t, text, api.ErrByte, 0)
			case !isOne(second):
				wantFault(t, text, api.ErrByte, 1)
			default:
				wantPieces(t, text, aSign(first, 0), aSign(second, 1))
			}
		}
	}
}

// P2.1: signs of two bytes behind one another and cut short: the longer one goes first.
func TestSignsInRows(t *testing.T) {
	wantPieces(t, "a<=b<c", aWord("a", 0), aSign("<=", 1), aWord("b", 3), aSign("<", 4), aWord("c", 5))
	wantPieces(t, "!!=", aSign("!", 0), aSign("!=", 1))
	wantPieces(t, "!===", aSign("!=", 0), aSign("==", 2))
	wantPieces(t, "<<===", aSign("<", 0), aSign("<=", 1), aSign("==", 3))
	wantPieces(t, "&&&&||||:=:=", aSign("&&", 0), aSign("&&", 2), aSign("||", 4), aSign("||", 6), aSign(":=", 8), aSign(":=", 10))
	wantPieces(t, "< ==", aSign("<", 0), aSign("==", 2))
	wantPieces(t, "a<=", aWord("a", 0), aSign("<=", 1))
	wantPieces(t, "a<", aWord("a", 0), aSign("<", 1))
	wantFault(t, "a=", api.ErrByte, 1)
	wantFault(t, "<<==", api.ErrByte, 3)
	wantFault(t, "a=<b", api.ErrByte, 1)
	wantFault(t, "a===b", api.ErrByte, 3)
	wantFault(t, "a&&&b", api.ErrByte, 3)
	wantFault(t, "a|||b", api.ErrByte, 3)
	wantFault(t, "x: =1", api.ErrByte, 1)
	wantFault(t, "x:\n=1", api.ErrByte, 1)
}

// P2.1: numbers, with zeros ahead and up to the greatest.
func TestNumbers(t *testing.T) {
	const greatest = "9223372036854775807"
	wantPieces(t, "0", aNumber("0", 0, 0))
	wantPieces(t, "007", aNumber("007", 7, 0))
	wantPieces(t, "00000000000000000000000000001", aNumber("00000000000000000000000000001", 1, 0))
	wantPieces(t, greatest, aNumber(greatest, math.MaxInt64, 0))
	wantPieces(t, "000"+greatest, aNumber("000"+greatest, math.MaxInt64, 0))
	wantPieces(t, "1 x", aNumber("1", 1, 0), aWord("x", 2))
	wantPieces(t, "1;x", aNumber("1", 1, 0), aSign(";", 1), aWord("x", 2))
	wantPieces(t, strings.Repeat("0", api.MaxSource), aNumber(strings.Repeat("0", api.MaxSource), 0, 0))
	for _, text := range []string{
		"9223372036854775808", "9223372036854775810", "18446744073709551616", "18446744073709551617", "0009223372036854775808",
		strings.Repeat("9", api.MaxSource-2), "1x", "1_", "1Z", "007a", greatest + "A", "1x2", "0x10", "1e3",
	} {
		wantFault(t, text, api.ErrDigits, 0)
		wantFault(t, "; "+text, api.ErrDigits, 2)
	}
	wantFault(t, "-9223372036854775808", api.ErrDigits, 1)
	wantFault(t, "1\xc3", api.ErrByte, 1)
}

// P2.1: words, at most MaxName bytes of them.
func TestWords(t *testing.T) {
	for _, text := range []string{"x1", "_", "_1", "__", "aZ_09", "while", "true", "var", "while_2", "ABCDEFGHIJKLMNOP", "a123456789012345", "_______________z"} {
		wantPieces(t, text, aWord(text, 0))
	}
	for _, text := range []string{"abcdefghijklmnopq", "a1234567890123456", "________________z", strings.Repeat("a", api.MaxSource-2)} {
		wantFault(t, text, api.ErrLong, 0)
		wantFault(t, "; "+text, api.ErrLong, 2)
	}
}

// P2.1: a text's length is asked ahead of all that stands in it.
func TestLength(t *testing.T) {
	wantPieces(t, strings.Repeat(" ", api.MaxSource))
	wantPieces(t, strings.Repeat("#", api.MaxSource))
	wantFault(t, strings.Repeat(" ", api.MaxSource+1), api.ErrLong, api.MaxSource)
	wantFault(t, strings.Repeat("#", api.MaxSource+1), api.ErrLong, api.MaxSource)
	wantFault(t, ","+strings.Repeat(" ", api.MaxSource), api.ErrLong, api.MaxSource)
	wantFault(t, "1x"+strings.Repeat(";", 3*api.MaxSource), api.ErrLong, api.MaxSource)
	got, code, at := Tokens(strings.Repeat(";", api.MaxSource))
	if len(got) != api.MaxSource || code != api.OK || at != 0 {
		t.Errorf("P2.1: %d signs are cut into %d pieces, %v, %d", api.MaxSource, len(got), code, at)
	}
	last := strings.Repeat(" ", api.MaxSource-1)
	wantPieces(t, last+"a", aWord("a", api.MaxSource-1))
	wantFault(t, last+"=", api.ErrByte, api.MaxSource-1)
}

// P2.1: bytes that begin nothing, in a comment and outside of one.
func TestStrangeBytes(t *testing.T) {
	for b := 128; b < 256; b++ {
		strange := string([]byte{byte(b)})
		wantFault(t, strange, api.ErrByte, 0)
		wantFault(t, "a "+strange, api.ErrByte, 2)
		wantFault(t, "a"+strange+"b", api.ErrByte, 1)
		wantPieces(t, "a#"+strange+"\nb", aWord("a", 0), aWord("b", 4))
	}
	wantFault(t, "a,b", api.ErrByte, 1)
	wantFault(t, "a\x00", api.ErrByte, 1)
	wantFault(t, "x\u00e9", api.ErrByte, 1)
	wantFault(t, "a\u00a0b", api.ErrByte, 1)
}

// P2.1: of several faults the first from the front.
func TestWhichFaultIsFirst(t *testing.T) {
	long := strings.Repeat("a", api.MaxName+1)
	wantFault(t, "1x,", api.ErrDigits, 0)
	wantFault(t, ",1x", api.ErrByte, 0)
	wantFault(t, "a , "+long, api.ErrByte, 2)
	wantFault(t, "a "+long+" ,", api.ErrLong, 2)
	wantFault(t, long+" 1x", api.ErrLong, 0)
	wantFault(t, "1x "+long, api.ErrDigits, 0)
	wantFault(t, "1"+long, api.ErrDigits, 0)
	wantFault(t, long+",", api.ErrLong, 0)
	wantFault(t, "9223372036854775808x", api.ErrDigits, 0)
	wantFault(t, "= = =", api.ErrByte, 0)
	wantFault(t, "#,\n a\n ,", api.ErrByte, 7)
	wantFault(t, strings.Repeat(";", 1000)+"@"+strings.Repeat(";", 1000), api.ErrByte, 1000)
}
