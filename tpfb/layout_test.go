package tpfb

import (
	"strings"
	"testing"

	"winnow/api"
	"winnow/lex"
	"winnow/parse"
	"winnow/print"
)

// pieces are those of a text that is taken.
func pieces(t testing.TB, text string) []string {
	t.Helper()
	tokens, code, at := lex.Tokens(text)
	if code != api.OK {
		t.Fatalf("Tokens of %q = %v at %d", text, code, at)
	}
	var list []string
	for _, token := range tokens {
		list = append(list, token.Text)
	}
	return list
}

// printed is the one text of a text's tree.
func printed(t testing.TB, text string) string {
	t.Helper()
	nodes, err := parse.Parse(text)
	s, code := print.Text(nodes)
	if err != nil || code != api.OK {
		t.Fatalf("%q isn't printed: %v, %v", text, err, code)
	}
	return s
}

func isWord(piece string) bool {
	return strings.ContainsAny(piece[:1], "abcdefghijklmnopqrstuvwxyzABCDEFGHIJKLMNOPQRSTUVWXYZ_0123456789")
}

// tight has nothing between pieces, but where both are words or both are signs, which might become one.
func tight(list []string) string {
	var text strings.Builder
	for i, piece := range list {
		if i > 0 && isWord(list[i-1]) == isWord(piece) {
			text.WriteByte(' ')
		}
		text.WriteString(piece)
	}
	return text.String()
}

// loose has blanks and comments between pieces, ahead of them and behind them, zeros ahead of numbers, and brackets around numbers and truths that stand as values.
func (m maker) loose(list []string) string {
	between := func() string {
		return m.pick(" ", " ", "\n", "\t", "\r\n", "   ", "# a comment\n", " #\n#\n", "# x := 1; } \xff\x00\n", "#assert false;\n")
	}
	var text strings.Builder
	inArray := false
	for _, piece := range list {
		inArray = piece == "array" || inArray && piece != ";"
		text.WriteString(between())
		more := 0
		if '0' <= piece[0] && piece[0] <= '9' {
			piece = strings.Repeat("0", m.Intn(3)) + piece
			more = m.Intn(3)
		}
		if piece == "true" || piece == "false" {
			more = m.Intn(3)
		}
		if inArray {
			more = 0
		}
		text.WriteString(strings.Repeat("( ", more) + piece + strings.Repeat(" )", more))
	}
	return text.String() + between() + m.pick("", "#", "# the end", "\n")
}

// crowded is as many lines of one piece each.
func crowded(list []string) string { return strings.Join(list, "\n") + "\n" }

// renamed is a text with other names of its variables, which play no part.
func renamed(t testing.TB, text string) string {
	t.Helper()
	names := map[string]string{"x": "_", "y": "Y9", "w": "another_name_0_1", "v": "vv", "a": "x", "b": "inputs", "i": "VAR"}
	list := pieces(t, text)
	for i, piece := range list {
		if name, ok := names[piece]; ok {
			list[i] = name
		}
	}
	return strings.Join(list, " ")
}

// wantSameAnswers holds that other texts are told the same of as a text.
func wantSameAnswers(t testing.TB, c api.Config, text string, others ...string) {
	t.Helper()
	want := tellResult(analyzed(t, text, c))
	report, err := Report(text, c)
	for _, other := range others {
		if r := analyzed(t, other, c); tellResult(r) != want {
			t.Fatalf("P28.1: Analyze of %q with %+v = %+v, of %q %s", other, c, r, text, want)
		}
	}
	other := others[len(others)-1]
	if s, err2 := Report(other, c); s != report || err != nil || err2 != nil {
		t.Fatalf("P28.2: Report of %q with %+v = %q, %v, of %q %q, %v", other, c, s, err2, text, report, err)
	}
}

// P28.1: blanks, comments, needless brackets and another layout change no verdict and not the Posts: programs of each shape.
func TestLayoutChangesNothing(t *testing.T) {
	t.Parallel()
	m := newMaker(283)
	for _, text := range texts() {
		list := pieces(t, text)
		for i, c := range corners() {
			switch i % 4 {
			case 0:
				wantSameAnswers(t, c, text, tight(list), m.loose(pieces(t, printed(t, text))))
			case 1:
				wantSameAnswers(t, c, text, crowded(list), m.loose(list))
			case 2:
				wantSameAnswers(t, c, text, renamed(t, text), printed(t, text))
			}
		}
	}
}

// P28.1: the same by chance.
func TestLayoutChangesNothingByChance(t *testing.T) {
	t.Parallel()
	m := newMaker(284)
	for i := range 80 {
		text := m.program(1 + i%4)
		list := pieces(t, text)
		wantSameAnswers(t, m.config(), text, tight(list), crowded(list), printed(t, text), renamed(t, text), m.loose(list))
	}
}

// P28.1: a fault moves with what stands ahead of it.
func TestFaultsMoveWithTheText(t *testing.T) {
	for _, w := range wrongTexts() {
		for _, ahead := range []string{" ", "\n\n\n", "# nothing\n"} {
			if w.code != api.ErrLong || w.at != api.MaxSource {
				wantRefused(t, ahead+w.text, plain(), ofText(w.code, w.at+len(ahead)))
			}
		}
	}
}
