package check

import (
	"winnow/api"
	"winnow/parse"
)

// reading is what the nodes that were gone through have told. Its lists have room for the longest ones: nearly every call of the layers above asks Good, which makes no new memory so.
type reading struct {
	names
	symbols [api.MaxNodes]int
	siteOf  [api.MaxNodes]int
	sites   [api.MaxSites]int
	found   int                   // sites
	numbers [api.MaxNest + 1]bool // by Depth: whether what the last node of it holds has to be a number
}

// read goes through a tree up to the first fault, and tells that and the number of its node.
func (r *reading) read(ns []api.Node) (api.Errno, int) {
	if code, at := parse.Shape(ns); code != api.OK {
		return code, at
	}
	for i, n := range ns {
		if code := r.put(i, n); code != api.OK {
			return code, i
		}
	}
	return api.OK, 0
}

// prog is the program of the nodes that were read; it shares their memory and the reading's.
func (r *reading) prog(ns []api.Node) api.Prog {
	return api.Prog{
		Nodes:   ns,
		Scalars: r.scalars[:r.scalarCount],
		Arrays:  r.arrays[:r.arrayCount],
		Symbols: r.symbols[:len(ns)],
		Sites:   r.sites[:r.found],
		SiteOf:  r.siteOf[:len(ns)],
	}
}

// put takes a node, or tells its fault.
func (r *reading) put(i int, n api.Node) api.Errno {
	symbol, code := r.symbol(n)
	switch {
	case code != api.OK:
		return code
	case isExpression(n) && isNumber(n) != r.numbers[n.Depth-1]:
		return api.ErrSort
	case isSite(n) && r.found == api.MaxSites:
		return api.ErrSites
	}
	r.numbers[n.Depth] = wantsNumber(n)
	r.symbols[i] = symbol
	r.siteOf[i] = -1
	if isSite(n) {
		r.siteOf[i] = r.found
		r.sites[r.found] = i
		r.found++
	}
	return api.OK
}

// isExpression goes by api's order of the kinds, in which the expressions are the last.
func isExpression(n api.Node) bool { return n.Kind >= api.KNum }

// isNumber tells numbers from conditions, n being an expression.
func isNumber(n api.Node) bool {
	switch n.Kind {
	case api.KBool:
		return false
	case api.KUnary:
		return n.Op == api.OpNeg
	case api.KBinary:
		return n.Op <= api.OpRem
	}
	return true
}

// wantsNumber tells whether the expressions that a node holds have to be numbers; else they have to be conditions.
func wantsNumber(n api.Node) bool {
	switch n.Kind {
	case api.KAssert, api.KIf, api.KWhile:
		return false
	case api.KUnary:
		return n.Op == api.OpNeg
	case api.KBinary:
		return n.Op < api.OpAnd
	}
	return true
}

func isSite(n api.Node) bool {
	switch n.Kind {
	case api.KStore, api.KLoad, api.KAssert:
		return true
	}
	return n.Op == api.OpDiv || n.Op == api.OpRem
}
