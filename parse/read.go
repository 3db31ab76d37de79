package parse

import (
	"winnow/api"
)

// reader goes through the pieces from the left, by one piece that is looked at ahead. No piece is passed over that can't stand there, so the first one that doesn't fit is the first that can't.
type reader struct {
	pieces []api.Tok // what is still to be read, and behind it a sign without a text, at the text's end
}

// readProgram reads all of a text's pieces.
func readProgram(pieces []api.Tok, length int) []branch {
	r := &reader{append(pieces, api.Tok{Kind: api.TSign, At: length})}
	var program []branch
	for r.sees("var") || r.sees("array") {
		program = append(program, r.declaration())
	}
	return append(program, r.statements("")...)
}

func (r *reader) sees(text string) bool { return r.pieces[0].Text == text }

// step passes over the piece that comes.
func (r *reader) step() api.Tok {
	piece := r.pieces[0]
	r.pieces = r.pieces[1:]
	return piece
}

// refuse leaves the reading because of the piece that comes.
func (r *reader) refuse() {
	refuse(api.ErrWant, r.pieces[0].At)
}

// take reads a piece that must come, and tells its place.
func (r *reader) take(text string) int {
	if !r.sees(text) {
		r.refuse()
	}
	return r.step().At
}

func (r *reader) name() api.Tok {
	if r.pieces[0].Kind != api.TWord || isReserved(r.pieces[0].Text) {
		r.refuse()
	}
	return r.step()
}

func (r *reader) number() api.Tok {
	if r.pieces[0].Kind != api.TNum {
		r.refuse()
	}
	return r.step()
}

// isReserved tells the words of the language, which are no names.
func isReserved(word string) bool {
	switch word {
	case "var", "array", "input", "assert", "skip", "if", "else", "while", "true", "false":
		return true
	}
	return false
}

func (r *reader) declaration() branch {
	var d branch
	if r.sees("var") {
		d.node = api.Node{Kind: api.KVar, At: r.take("var"), Name: r.name().Text}
	} else {
		d.node = api.Node{Kind: api.KArray, At: r.take("array"), Name: r.name().Text}
		r.take("[")
		d.node.Num = r.number().Num
		r.take("]")
	}
	r.take(";")
	return d
}

// statements reads statements up to a piece, which stays.
func (r *reader) statements(end string) []branch {
	var row []branch
	for !r.sees(end) {
		row = append(row, r.statement())
	}
	return row
}

func (r *reader) statement() branch {
	if r.sees("if") {
		return r.choice()
	}
	if r.sees("while") {
		return branch{api.Node{Kind: api.KWhile, At: r.take("while")}, []branch{r.expr(), r.block()}}
	}
	s := r.simple()
	r.take(";")
	return s
}

func (r *reader) choice() branch {
	c := branch{api.Node{Kind: api.KIf, At: r.take("if")}, []branch{r.expr(), r.block()}}
	if r.sees("else") {
		r.step()
		c.held = append(c.held, r.block())
	}
	return c
}

func (r *reader) block() branch {
	b := branch{api.Node{Kind: api.KBlock, At: r.take("{")}, r.statements("}")}
	r.take("}")
	return b
}

// simple reads a statement without blocks, but for the ; behind it.
func (r *reader) simple() branch {
	switch {
	case r.sees("input"):
		return branch{node: api.Node{Kind: api.KInput, At: r.take("input"), Name: r.name().Text}}
	case r.sees("assert"):
		return branch{api.Node{Kind: api.KAssert, At: r.take("assert")}, []branch{r.expr()}}
	case r.sees("skip"):
		return branch{node: api.Node{Kind: api.KSkip, At: r.take("skip")}}
	}
	s := r.named(api.KAssign, api.KStore)
	r.take(":=")
	s.held = append(s.held, r.expr())
	return s
}

// named reads a name: a node of the kind alone; or, an index standing behind it, one of the kind indexed that holds it.
func (r *reader) named(alone, indexed api.NodeKind) branch {
	name := r.name()
	b := branch{node: api.Node{Kind: alone, Name: name.Text, At: name.At}}
	if r.sees("[") {
		r.step()
		b.node.Kind = indexed
		b.held = []branch{r.expr()}
		r.take("]")
	}
	return b
}
