package lex

import (
	"strings"

	"winnow/api"
	"winnow/word"
)

// kind tells the piece of its kind that begins at a place of its text, or what is wrong with that piece; false: none begins there.
type kind func(at int) (cut, bool)

// kindsOf is the kinds of pieces of one text, in the order in which they are asked.
func kindsOf(s string) []kind {
	return []kind{wordsOf(s), numbersOf(s), signsOf(s)}
}

func wordsOf(s string) kind {
	return func(at int) (cut, bool) {
		if !isLetter(s[at]) {
			return cut{}, false
		}
		c := cut{piece: api.Tok{Kind: api.TWord, Text: s[at:run(s, at, isLetterOrDigit)], At: at}}
		if len(c.piece.Text) > api.MaxName {
			c.code = api.ErrLong
		}
		return c, true
	}
}

func numbersOf(s string) kind {
	return func(at int) (cut, bool) {
		if !isDigit(s[at]) {
			return cut{}, false
		}
		end := run(s, at, isDigit)
		c := cut{piece: api.Tok{Kind: api.TNum, Text: s[at:end], At: at}}
		value, code, _ := word.Parse(c.piece.Text)
		c.piece.Num = value
		if code != api.OK || end < len(s) && isLetter(s[end]) {
			c.code = api.ErrDigits
		}
		return c, true
	}
}

func signsOf(s string) kind {
	return func(at int) (cut, bool) {
		n := signLength(s[at:])
		return cut{piece: api.Tok{Kind: api.TSign, Text: s[at : at+n], At: at}}, n > 0
	}
}

// signLength is how many bytes of a text's front are one sign; 0: none begins there.
func signLength(s string) int {
	switch s[:min(2, len(s))] {
	case "<=", ">=", "==", "!=", "&&", "||", ":=":
		return 2
	}
	if strings.IndexByte("+-*/%<>!()[]{};", s[0]) >= 0 {
		return 1
	}
	return 0
}

// run is the first place from one on whose byte isn't of a sort.
func run(s string, at int, sort func(b byte) bool) int {
	for at < len(s) && sort(s[at]) {
		at++
	}
	return at
}

func isLetter(b byte) bool {
	return 'a' <= b && b <= 'z' || 'A' <= b && b <= 'Z' || b == '_'
}

func isDigit(b byte) bool { return '0' <= b && b <= '9' }

func isLetterOrDigit(b byte) bool { return isLetter(b) || isDigit(b) }

func isBlank(b byte) bool { return b == '\t' || b == '\n' || b == '\r' || b == ' ' }

func isInLine(b byte) bool { return b != '\n' }
