package parse

import "strings"

// grammar says by which rows of symbols each name may be replaced; a symbol that it doesn't name is a terminal.
type grammar map[string][][]string

// rulesOf reads lines of a name, a = and rows of symbols, parted by a / (a row may be empty).
func rulesOf(lines string) grammar {
	g := grammar{}
	for line := range strings.Lines(lines) {
		name, rows, ok := strings.Cut(strings.TrimSpace(line), " =")
		if !ok {
			continue
		}
		for _, row := range strings.Split(rows+" ", " / ") {
			g[name] = append(g[name], strings.Fields(row))
		}
	}
	return g
}

// item is a row of a name of which the symbols ahead of dot were found, from a place on.
type item struct {
	name           string
	row, dot, from int
}

// reading finds by Earley's way, with sets of items and no stack of calls, which rows of terminals begin a word of a grammar.
type reading struct {
	g      grammar
	root   string
	states []map[item]int
}

func newReading(g grammar, root string) *reading {
	r := &reading{g: g, root: root}
	first := map[item]int{}
	for row := range g[root] {
		first[item{root, row, 0, 0}] = 1
	}
	r.states = append(r.states, first)
	r.fill()
	return r
}

// symbol is what stands behind an item's dot, or "".
func (r *reading) symbol(i item) string {
	if row := r.g[i.name][i.row]; i.dot < len(row) {
		return row[i.dot]
	}
	return ""
}

// fill adds to the last set all that follows from it and from those ahead.
func (r *reading) fill() {
	last := len(r.states) - 1
	set := r.states[last]
	for grown := true; grown; {
		before := len(set)
		for i := range set {
			want := r.symbol(i)
			if want == "" {
				for j := range r.states[i.from] {
					if r.symbol(j) == i.name {
						set[item{j.name, j.row, j.dot + 1, j.from}] = 1
					}
				}
				continue
			}
			for row := range r.g[want] {
				set[item{want, row, 0, last}] = 1
			}
		}
		grown = len(set) > before
	}
}

// take goes on by a terminal, if it can stand there.
func (r *reading) take(terminal string) bool {
	next := map[item]int{}
	for i := range r.states[len(r.states)-1] {
		if r.symbol(i) == terminal {
			next[item{i.name, i.row, i.dot + 1, i.from}] = 1
		}
	}
	if len(next) == 0 {
		return false
	}
	r.states = append(r.states, next)
	r.fill()
	return true
}

// back forgets the last terminal.
func (r *reading) back() { r.states = r.states[:len(r.states)-1] }

// whole tells whether the terminals taken are a word of the grammar.
func (r *reading) whole() bool {
	for i := range r.states[len(r.states)-1] {
		if i.name == r.root && i.from == 0 && r.symbol(i) == "" {
			return true
		}
	}
	return false
}
