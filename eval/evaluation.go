package eval

import (
	"winnow/api"
	"winnow/word"
)

// evaluation goes through the nodes of a statement or an expression as they stand, which is the order in which they are evaluated.
type evaluation struct {
	prog  api.Prog
	store api.Store
	next  int // the node that comes
}

// take is the place of the node that comes; the one behind it comes then.
func (e *evaluation) take() int {
	e.next++
	return e.next - 1
}

// pass leaves the expression that comes alone.
func (e *evaluation) pass() {
	nodes := e.prog.Nodes
	depth := nodes[e.take()].Depth
	for e.next < len(nodes) && nodes[e.next].Depth > depth {
		e.next++
	}
}

// giveUp ends all by the fault of the site at a place.
func (e *evaluation) giveUp(place int) { panic(fault(e.prog.SiteOf[place])) }

// carryOut changes the store as the simple statement that comes does.
func (e *evaluation) carryOut(input int64) {
	place := e.take()
	symbol := e.prog.Symbols[place]
	switch e.prog.Nodes[place].Kind {
	case api.KAssign:
		e.store.Vars[symbol] = e.number()
	case api.KStore:
		element := e.element(place)
		*element = e.number()
	case api.KInput:
		e.store.Vars[symbol] = input
	case api.KAssert:
		if !e.condition() {
			e.giveUp(place)
		}
	}
}

// element is what the node at a place names by its array and by the index that comes.
func (e *evaluation) element(place int) *int64 {
	list := e.store.Arrays[e.prog.Symbols[place]]
	index := e.number()
	if index < 0 || index >= int64(len(list)) {
		e.giveUp(place)
	}
	return &list[index]
}

// number is the value of the expression that comes, which is a number.
func (e *evaluation) number() int64 {
	place := e.take()
	n := e.prog.Nodes[place]
	switch n.Kind {
	case api.KNum:
		return n.Num
	case api.KRead:
		return e.store.Vars[e.prog.Symbols[place]]
	case api.KLoad:
		return *e.element(place)
	case api.KUnary:
		return word.Neg(e.number())
	}
	left := e.number()
	right := e.number()
	value, ok := arithmetic(n.Op)(left, right)
	if !ok {
		e.giveUp(place)
	}
	return value
}

// condition is the value of the expression that comes, which is a condition.
func (e *evaluation) condition() bool {
	n := e.prog.Nodes[e.take()]
	switch {
	case n.Kind == api.KBool:
		return n.Num == 1
	case n.Kind == api.KUnary:
		return !e.condition()
	case n.Op == api.OpAnd || n.Op == api.OpOr:
		return e.decided(n.Op == api.OpOr)
	}
	left := e.number()
	right := e.number()
	return comparison(n.Op)(left, right)
}

// decided is the value of the two conditions that come, of which the left one decides alone if it is as it is said.
func (e *evaluation) decided(by bool) bool {
	if e.condition() != by {
		return e.condition()
	}
	e.pass()
	return by
}
