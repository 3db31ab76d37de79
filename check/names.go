package check

import (
	"slices"

	"winnow/api"
)

// names are the things that were declared so far.
type names struct {
	scalars     [api.MaxScalars]string
	arrays      [api.MaxArrays]api.Array
	scalarCount int
	arrayCount  int
}

func (d *names) scalar(name string) int { return slices.Index(d.scalars[:d.scalarCount], name) }

func (d *names) array(name string) int {
	return slices.IndexFunc(d.arrays[:d.arrayCount], func(a api.Array) bool { return a.Name == name })
}

func (d *names) has(name string) bool { return d.scalar(name) >= 0 || d.array(name) >= 0 }

// symbol is the number of what a node declares or names, -1 if it doesn't; or the node's fault.
func (d *names) symbol(n api.Node) (int, api.Errno) {
	switch n.Kind {
	case api.KVar, api.KArray:
		return d.declare(n)
	case api.KAssign, api.KInput, api.KRead:
		return d.known(n.Name, d.scalar(n.Name))
	case api.KStore, api.KLoad:
		return d.known(n.Name, d.array(n.Name))
	}
	return -1, api.OK
}

// known tells the number that was found for a name, or why none was.
func (d *names) known(name string, number int) (int, api.Errno) {
	switch {
	case number >= 0:
		return number, api.OK
	case d.has(name):
		return 0, api.ErrSort
	}
	return 0, api.ErrNone
}

// declare takes a scalar or an array behind those that are there, and tells its number.
func (d *names) declare(n api.Node) (int, api.Errno) {
	if d.has(n.Name) {
		return 0, api.ErrTwice
	}
	if n.Kind == api.KVar {
		return d.addScalar(n.Name)
	}
	if n.Num < 1 || n.Num > api.MaxLength {
		return 0, api.ErrLen
	}
	return d.addArray(api.Array{Name: n.Name, Len: int(n.Num)})
}

func (d *names) addScalar(name string) (int, api.Errno) {
	if d.scalarCount == api.MaxScalars {
		return 0, api.ErrScalars
	}
	d.scalars[d.scalarCount] = name
	d.scalarCount++
	return d.scalarCount - 1, api.OK
}

func (d *names) addArray(a api.Array) (int, api.Errno) {
	if d.arrayCount == api.MaxArrays {
		return 0, api.ErrArrays
	}
	d.arrays[d.arrayCount] = a
	d.arrayCount++
	return d.arrayCount - 1, api.OK
}
