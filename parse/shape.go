package parse

import (
	"math"

	"winnow/api"
)

// sort is as what a node stands in a tree.
type sort uint8

const (
	nothing sort = iota
	declaration
	statement
	block
	expression
)

// rule is how the nodes of one kind are.
type rule struct {
	sort    sort
	named   bool
	most    int64     // the greatest Num
	ops     [2]api.Op // the first and the last Op
	holds   [3]sort   // what such a node holds, in order; a KBlock's statements are as many as there are
	wanting uint8     // how many of these must be there
}

// rules are by kind. What a row doesn't tell is zero, as the fields are that a kind doesn't have.
var rules = [...]rule{
	api.KVar:    {sort: declaration, named: true},
	api.KArray:  {sort: declaration, named: true, most: math.MaxInt64},
	api.KAssign: {sort: statement, named: true, holds: [3]sort{expression}, wanting: 1},
	api.KStore:  {sort: statement, named: true, holds: [3]sort{expression, expression}, wanting: 2},
	api.KInput:  {sort: statement, named: true},
	api.KAssert: {sort: statement, holds: [3]sort{expression}, wanting: 1},
	api.KSkip:   {sort: statement},
	api.KIf:     {sort: statement, holds: [3]sort{expression, block, block}, wanting: 2},
	api.KWhile:  {sort: statement, holds: [3]sort{expression, block}, wanting: 2},
	api.KBlock:  {sort: block},
	api.KNum:    {sort: expression, most: math.MaxInt64},
	api.KBool:   {sort: expression, most: 1},
	api.KRead:   {sort: expression, named: true},
	api.KLoad:   {sort: expression, named: true, holds: [3]sort{expression}, wanting: 1},
	api.KUnary:  {sort: expression, ops: [2]api.Op{api.OpNeg, api.OpNot}, holds: [3]sort{expression}, wanting: 1},
	api.KBinary: {sort: expression, ops: [2]api.Op{api.OpAdd, api.OpOr}, holds: [3]sort{expression, expression}, wanting: 2},
}

// Shape tells whether a list is a tree; with an error the number of the node.
func Shape(ns []api.Node) (api.Errno, int) {
	if len(ns) > api.MaxNodes {
		return api.ErrMany, api.MaxNodes
	}
	var p path
	for i, n := range ns {
		if !fieldsFit(n) || !p.put(n) {
			return api.ErrShape, i
		}
		if n.Depth > api.MaxNest {
			return api.ErrDeep, i
		}
	}
	if p.wants(0) {
		return api.ErrShape, len(ns)
	}
	return api.OK, 0
}

// fieldsFit tells whether a node's fields are as its kind has them, Depth and At aside.
func fieldsFit(n api.Node) bool {
	if n.Kind < 0 || int(n.Kind) >= len(rules) {
		return false
	}
	r := rules[n.Kind]
	if r.named && !isName(n.Name) || !r.named && n.Name != "" {
		return false
	}
	return n.Num >= 0 && n.Num <= r.most && n.Op >= r.ops[0] && n.Op <= r.ops[1]
}

func isName(s string) bool {
	if s == "" || len(s) > api.MaxName || isReserved(s) || '0' <= s[0] && s[0] <= '9' {
		return false
	}
	for i := range len(s) {
		b := s[i]
		if !('a' <= b && b <= 'z' || 'A' <= b && b <= 'Z' || '0' <= b && b <= '9' || b == '_') {
			return false
		}
	}
	return true
}

// path is the nodes that the next one may stand in, from the outermost on, and the last node itself: one of each Depth from 1 on. It has room for the deepest tree, and for the node that is too deep.
type path struct {
	open    [api.MaxNest + 1]holder
	depth   int  // of the last node
	started bool // a statement was there, so declarations have ended
}

// holder is a node of a kind, and how many things it holds so far.
type holder struct {
	kind api.NodeKind
	held int
}

// next is what a node may hold behind what it holds.
func (h holder) next() sort {
	if h.kind == api.KBlock {
		return statement
	}
	holds := rules[h.kind].holds
	if h.held == len(holds) {
		return nothing
	}
	return holds[h.held]
}

// wants tells whether something is wanting in a node of the path, from one on.
func (p *path) wants(from int) bool {
	for _, h := range p.open[from:p.depth] {
		if h.held < int(rules[h.kind].wanting) {
			return true
		}
	}
	return false
}

// put lets a node stand behind those that are there, or tells that it can't.
func (p *path) put(n api.Node) bool {
	above := n.Depth - 1
	if above < 0 || above > p.depth || p.wants(above) || !p.takes(above, rules[n.Kind].sort) {
		return false
	}
	if above > 0 {
		p.open[above-1].held++
	} else {
		p.started = p.started || rules[n.Kind].sort == statement
	}
	p.open[above] = holder{kind: n.Kind}
	p.depth = n.Depth
	return true
}

// takes tells whether a sort may stand right below the first nodes of the path.
func (p *path) takes(above int, s sort) bool {
	if above > 0 {
		return p.open[above-1].next() == s
	}
	return s == statement || s == declaration && !p.started
}
