package flow

import (
	"slices"

	"shuttlecock/api"
	"shuttlecock/ast"
	"shuttlecock/diag"
	"shuttlecock/graph"
)

// most is how many there may be of whatever is counted.
const most = 1000

// checker asks whether a file that is right is sound, and keeps what it finds.
type checker struct {
	file diag.File
	*Types
}

// sound: is the file? What the diagrams are to one another is asked last.
func (c checker) sound() api.Errno {
	for _, d := range c.file.Diagrams {
		if e := c.next(d); e != api.OK {
			return e
		}
	}
	order, is := graph.Order(c.subs())
	if !is {
		return api.ErrCycle
	}
	c.order = order
	return api.OK
}

// next: is the next diagram sound, but for what is asked last?
func (c checker) next(d diag.Diagram) api.Errno {
	switch {
	case !c.named(d):
		return api.ErrName
	case len(d.Outs) == 0:
		return api.ErrDefine
	case !c.small(d):
		return api.ErrRange
	case !c.given(d):
		return api.ErrArity
	}
	order, is := graph.Order(hangs(d))
	if !is {
		return api.ErrCycle
	}
	types, is := c.typed(d, order)
	if !is {
		return api.ErrType
	}
	c.diagrams = append(c.diagrams, diagram{types: types, order: order})
	return api.OK
}

// named: has the next diagram a name that none ahead has, and each port one
// that no other port has?
func (c checker) named(d diag.Diagram) bool {
	if _, is := c.numbers[d.Name]; is || !ast.Name(d.Name) {
		return false
	}
	c.numbers[d.Name] = len(c.diagrams)
	seen := map[string]bool{}
	for _, p := range ports(d) {
		if seen[p.Name] || !ast.Name(p.Name) {
			return false
		}
		seen[p.Name] = true
	}
	return true
}

// ports are all those of a diagram.
func ports(d diag.Diagram) []diag.Port {
	all := slices.Clone(d.Ins)
	for _, o := range d.Outs {
		all = append(all, o.Port)
	}
	return all
}

// small: are there no more diagrams, and has one no more of anything, than
// there may be? What goes out is counted together with the blocks, and with
// their results.
func (c checker) small(d diag.Diagram) bool {
	results := 0
	for _, b := range d.Blocks {
		if len(b.From) > most {
			return false
		}
		results += c.file.Results(b)
	}
	return len(c.file.Diagrams) <= most && len(d.Ins) <= most &&
		len(d.Outs)+results <= most && len(d.Outs)+len(d.Blocks) <= most
}

// given: has each diagram that is a block as many sources as it has Ins?
func (c checker) given(d diag.Diagram) bool {
	for _, b := range d.Blocks {
		if b.Kind == diag.Sub && len(b.From) != len(c.file.Diagrams[b.Sub].Ins) {
			return false
		}
	}
	return true
}

// hangs are, of each block, the numbers of those on which it hangs at once.
func hangs(d diag.Diagram) [][]int {
	all := make([][]int, len(d.Blocks))
	for i, b := range d.Blocks {
		if b.Kind == diag.Delay {
			continue
		}
		for _, s := range b.From {
			if s.Block != inPorts {
				all[i] = append(all[i], s.Block)
			}
		}
	}
	return all
}

// subs are, of each diagram, the numbers of those that are its blocks.
func (c checker) subs() [][]int {
	all := make([][]int, len(c.file.Diagrams))
	for i, d := range c.file.Diagrams {
		for _, b := range d.Blocks {
			if b.Kind == diag.Sub {
				all[i] = append(all[i], b.Sub)
			}
		}
	}
	return all
}
