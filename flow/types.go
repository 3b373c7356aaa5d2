package flow

import (
	"slices"

	"shuttlecock/ast"
	"shuttlecock/diag"
	"shuttlecock/ops"
)

// inPorts is the block of which the in-ports are results.
const inPorts = -1

// found are types, by the sources whose they are.
type found map[diag.Source]int

// of are the types of some sources, in order.
func (f found) of(sources []diag.Source) []int {
	all := make([]int, len(sources))
	for i, s := range sources {
		all[i] = f[s]
	}
	return all
}

// note notes the types of a block's results, or of the in-ports.
func (f found) note(block int, types []int) {
	for port, kind := range types {
		f[diag.Source{Block: block, Port: port}] = kind
	}
}

// typed are the types of all sources of a diagram whose blocks are gone
// through in their order; false, if something is not of the type that is
// asked. Of what a delay asks nothing is known till all blocks are through.
func (c checker) typed(d diag.Diagram, order []int) (found, bool) {
	f := found{}
	f.note(inPorts, ins(d))
	for _, i := range order {
		made, is := c.made(d.Blocks[i], f)
		if !is {
			return nil, false
		}
		f.note(i, made)
	}
	for _, b := range d.Blocks {
		if b.Kind == diag.Delay && f[b.From[0]] != b.Op {
			return nil, false
		}
	}
	for _, o := range d.Outs {
		if f[o.From] != o.Port.Type {
			return nil, false
		}
	}
	return f, true
}

// made are the types of a block's results; false, if its sources, but for a
// delay's, are not of the types that it asks.
func (c checker) made(b diag.Block, f found) ([]int, bool) {
	switch b.Kind {
	case diag.Int:
		return []int{ops.Int}, true
	case diag.Bool:
		return []int{ops.Bool}, true
	case diag.Delay:
		return []int{b.Op}, true
	case diag.Sub:
		sub := c.file.Diagrams[b.Sub]
		return outs(sub), slices.Equal(f.of(b.From), ins(sub))
	}
	kind, is := op(b, f.of(b.From))
	return []int{kind}, is
}

// op is the type of what a block makes that has an op, or is one of itself, of
// sources of these types; false, if it asks for others.
func op(b diag.Block, from []int) (int, bool) {
	switch b.Kind {
	case diag.Un:
		return ops.One(b.Op, from)
	case diag.Bin:
		return ops.Two(b.Op, from)
	case diag.Start:
		return ops.Two(ast.Arrow, from)
	}
	return ops.If(from)
}

func ins(d diag.Diagram) []int {
	all := make([]int, len(d.Ins))
	for i, p := range d.Ins {
		all[i] = p.Type
	}
	return all
}

func outs(d diag.Diagram) []int {
	all := make([]int, len(d.Outs))
	for i, o := range d.Outs {
		all[i] = o.Port.Type
	}
	return all
}
