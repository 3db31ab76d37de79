package wto

import "math"

// marking has the mark of each vertex: fresh, a number above it, or done.
type marking []int

const (
	fresh = 0
	done  = math.MaxInt
)

// takeOff takes vertices off a stack up to v, which is done then, and with it; the others are fresh again. (If v is no loop, there are no others.) It answers what is left of the stack.
func (m marking) takeOff(stack []int, v int) []int {
	at := len(stack) - 1
	for ; stack[at] != v; at-- {
		m[stack[at]] = fresh
	}
	m[v] = done
	return stack[:at]
}

// call is a Visit that hasn't answered yet: the arc that comes next, the least mark that it has heard of (at first its own), and whether its vertex is a loop. When it has asked for its Component, it goes through the arcs a second time, for that.
type call struct {
	vertex int
	arc    int
	least  int
	loop   bool
	second bool
}

// hear takes the mark that an arc tells: that of where it leads, or what a Visit has answered. To a Component it tells nothing.
func (c *call) hear(mark int) {
	if !c.second && mark <= c.least {
		c.least, c.loop = mark, true
	}
}

// answered is the calls without the last one, whose answer the one ahead of it has heard.
func answered(calls []call) []call {
	last := len(calls) - 1
	if last > 0 {
		calls[last-1].hear(calls[last].least)
	}
	return calls[:last]
}
