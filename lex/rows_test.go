package lex

import (
	"math/big"
	"math/rand"
	"regexp"
	"runtime"
	"slices"
	"strings"
	"sync"
	"testing"
	"time"

	"winnow/api"
)

// pattern says the chapter's words another way: what is passed over, then a word, a number with what may not stand behind it, a sign.
var pattern = regexp.MustCompile(`(?s-m)^(?:[\t\n\r ]|#[^\n]*)*(?:([A-Za-z_][A-Za-z_0-9]*)|([0-9]+)([A-Za-z_]?)|(<=|>=|==|!=|&&|\|\||:=|[-+*/%<>!()\[\]{};]))?`)

// expected cuts a text of bytes below 128 by the pattern.
func expected(s string) ([]api.Tok, api.Errno, int) {
	var pieces []api.Tok
	for at := 0; ; {
		m := pattern.FindStringSubmatchIndex(s[at:])
		part := func(k int) (string, int) {
			if m[2*k] < 0 {
				return "", at + m[1]
			}
			return s[at+m[2*k] : at+m[2*k+1]], at + m[2*k]
		}
		name, nameAt := part(1)
		digits, digitsAt := part(2)
		letter, _ := part(3)
		sign, signAt := part(4)
		value, _ := new(big.Int).SetString("0"+digits, 10)
		switch {
		case len(name) > api.MaxName:
			return nil, api.ErrLong, nameAt
		case name != "":
			pieces = append(pieces, aWord(name, nameAt))
		case digits != "" && (letter != "" || !value.IsInt64()):
			return nil, api.ErrDigits, digitsAt
		case digits != "":
			pieces = append(pieces, aNumber(digits, value.Int64(), digitsAt))
		case sign != "":
			pieces = append(pieces, aSign(sign, signAt))
		case at+m[1] < len(s):
			return nil, api.ErrByte, at + m[1]
		default:
			return pieces, api.OK, 0
		}
		at += m[1]
	}
}

// someText puts parts of texts behind one another; few of them are wrong, so that faults come late.
func someText(r *rand.Rand, wrong int) string {
	parts := []string{
		"a", "x1", "_", "while", "var", "Zz_9", "abcdefghijklmnop", "0", "7", "007", "9223372036854775807", " ", "\t", "\n", "\r", " ", " ", "\n", "#", "# x\n", "#\x7f\n",
		"<", "<=", ">", ">=", "==", "!=", "!", "&&", "||", ":=", "+", "-", "*", "/", "%", "(", ")", "[", "]", "{", "}", ";", ";", ";",
	}
	wrongs := []string{"=", "&", "|", ":", ",", "@", "\x00", "\x7f", "9223372036854775808", "99999999999999999999", "1a", "abcdefghijklmnopq"}
	var b strings.Builder
	for range r.Intn(30) {
		if r.Intn(100) < wrong {
			b.WriteString(wrongs[r.Intn(len(wrongs))])
		} else {
			b.WriteString(parts[r.Intn(len(parts))])
		}
	}
	return b.String()
}

// P2.1: many texts, held against the pattern.
func TestTextsByPattern(t *testing.T) {
	r := rand.New(rand.NewSource(2))
	for i := range 20000 {
		text := someText(r, i%4)
		got, code, at := Tokens(text)
		want, wantCode, wantAt := expected(text)
		if code != wantCode || at != wantAt || !slices.Equal(got, want) {
			t.Fatalf("P2.1: Tokens(%q) = %v, %v, %d, want %v, %v, %d", text, got, code, at, want, wantCode, wantAt)
		}
	}
}

// P2.2: pieces put behind one another, a blank between each two, are cut into the same pieces.
func TestPiecesInARow(t *testing.T) {
	r := rand.New(rand.NewSource(22))
	many := 0
	for range 5000 {
		pieces, code, _ := Tokens(someText(r, 0))
		if code != api.OK {
			continue
		}
		many += len(pieces)
		for _, blank := range []string{" ", "\t", "\n", "\r"} {
			again(t, pieces, blank)
		}
	}
	if many < 5000 {
		t.Errorf("P2.2: the texts had %d pieces in all", many)
	}
}

// P2.2: likewise each two pieces that would be one if they stood together.
func TestPiecesThatWouldRunTogether(t *testing.T) {
	texts := []string{"a", "b1", "_", "12", "0", "<", ">", "!", "-", "<=", "==", ":=", "&&", "||"}
	for _, first := range texts {
		for _, second := range texts {
			pieces, code, _ := Tokens(first + " " + second)
			if code != api.OK || len(pieces) != 2 || pieces[0].Text != first || pieces[1].Text != second {
				t.Errorf("P2.2: %q and %q are cut into %v, %v", first, second, pieces, code)
			}
		}
	}
}

// P2.2: a row of just MaxSource bytes.
func TestTheLongestRow(t *testing.T) {
	pieces, _, _ := Tokens(strings.Repeat(";", api.MaxSource/2-1) + "12")
	again(t, pieces, " ")
	words, _, _ := Tokens(strings.Repeat("a ", api.MaxSource/2))
	again(t, words, "\n")
}

func again(t *testing.T, pieces []api.Tok, blank string) {
	t.Helper()
	texts := make([]string, len(pieces))
	for i, p := range pieces {
		texts[i] = p.Text
	}
	row := strings.Join(texts, blank)
	got, code, at := Tokens(row)
	same := func(a, b api.Tok) bool { return a.Kind == b.Kind && a.Text == b.Text && a.Num == b.Num }
	if code != api.OK || at != 0 || !slices.EqualFunc(got, pieces, same) {
		t.Fatalf("P2.2: %.80q (%d bytes) is cut into %v, %v, %d, want %v", row, len(row), got, code, at, pieces)
	}
}

// Each list that is answered is new memory, its spare room too.
func TestListsAreNew(t *testing.T) {
	const text = "x := a [ 1 ] ;"
	first, _, _ := Tokens(text)
	kept := slices.Clone(first)
	second, _, _ := Tokens(text)
	for _, l := range [][]api.Tok{second, second[:cap(second)]} {
		for i := range l {
			l[i] = api.Tok{Kind: api.TNum, Text: "spoilt", Num: -1, At: -1}
		}
	}
	third, _, _ := Tokens(text)
	if !slices.Equal(first, kept) || !slices.Equal(third, kept) {
		t.Errorf("a list that was answered was changed: %v, %v, want %v", first, third, kept)
	}
}

// The goroutine has ended when Tokens answers, whatever it answers.
func TestNoGoroutineStays(t *testing.T) {
	texts := []string{"", "a", "=", "a = b", strings.Repeat("; ", 3000), strings.Repeat("; ", 3000) + "=", "1x" + strings.Repeat(";", 3000), strings.Repeat("a", 9000)}
	before := runtime.NumGoroutine()
	for range 50 {
		for _, text := range texts {
			Tokens(text)
		}
	}
	// The last one may be on its way out still.
	for range 100 {
		if runtime.NumGoroutine() <= before {
			return
		}
		time.Sleep(time.Millisecond)
	}
	t.Errorf("there were %d goroutines, there are %d", before, runtime.NumGoroutine())
}

// Calls side by side answer as they do alone.
func TestSideBySide(t *testing.T) {
	text := strings.Repeat("x := 1 + y ; ", 100)
	want, _, _ := Tokens(text)
	var callers sync.WaitGroup
	for range 8 {
		callers.Add(1)
		go func() {
			defer callers.Done()
			for range 20 {
				if got, code, _ := Tokens(text); code != api.OK || !slices.Equal(got, want) {
					t.Errorf("P2.1: side by side %d pieces, %v, alone %d", len(got), code, len(want))
				}
			}
		}()
	}
	callers.Wait()
}

// P0.1: any bytes at all.
func FuzzTokens(f *testing.F) {
	for _, text := range []string{"", "x:=10;", "a#\xff\n1", "\x80", "1x", strings.Repeat("a", 17)} {
		f.Add(text)
	}
	f.Fuzz(func(t *testing.T, text string) {
		got, code, at := Tokens(text)
		if code != api.OK && (got != nil || at < 0 || at > len(text)) || code == api.OK && at != 0 {
			t.Errorf("P2.1: Tokens(%q) = %v, %v, %d", text, got, code, at)
		}
		last := 0
		for _, p := range got {
			if p.At < last || text[p.At:p.At+len(p.Text)] != p.Text {
				t.Errorf("P2.1: Tokens(%q): the piece %v isn't where it says", text, p)
			}
			last = p.At + len(p.Text)
		}
	})
}
