package check

import (
	"slices"

	"shuttlecock/api"
	"shuttlecock/ast"
	"shuttlecock/ops"
)

// results are those of an expression that is right, in a node; its Kids are
// asked first.
func (t *Types) results(n node, e ast.Expr) ([]int, api.Errno) {
	kids, errno := t.operands(n, e.Kids)
	if errno != api.OK {
		return nil, errno
	}
	switch e.Kind {
	case ast.Int:
		return []int{ops.Int}, api.OK
	case ast.Bool:
		return []int{ops.Bool}, api.OK
	case ast.Var:
		kind, is := n.variables[e.Name]
		if !is {
			return nil, api.ErrName
		}
		return []int{kind}, api.OK
	case ast.Un:
		return made(ops.One(e.Op, kids))
	case ast.Bin:
		return made(ops.Two(e.Op, kids))
	case ast.If:
		return made(ops.If(kids))
	}
	return t.called(e.Name, kids)
}

// operands are the types of an expression's Kids, each of which has to have
// one result.
func (t *Types) operands(n node, kids []ast.Expr) ([]int, api.Errno) {
	all := make([]int, len(kids))
	for i, kid := range kids {
		l, errno := t.results(n, kid)
		if errno != api.OK {
			return nil, errno
		}
		if len(l) != 1 {
			return nil, api.ErrArity
		}
		all[i] = l[0]
	}
	return all, api.OK
}

// made is the one result of an op, if its operands are as it asks.
func made(kind int, is bool) ([]int, api.Errno) {
	if !is {
		return nil, api.ErrType
	}
	return []int{kind}, api.OK
}

// called are the results of the first node of a name, which is given
// operands of these types.
func (t *Types) called(name string, kids []int) ([]int, api.Errno) {
	i, is := t.numbers[name]
	if !is {
		return nil, api.ErrName
	}
	n := t.nodes[i]
	if e := match(kids, n.ins); e != api.OK {
		return nil, e
	}
	return slices.Clone(n.outs), api.OK
}

// match: are types as many as those that are asked, and the same, one by one?
func match(types, asked []int) api.Errno {
	if len(types) != len(asked) {
		return api.ErrArity
	}
	if !slices.Equal(types, asked) {
		return api.ErrType
	}
	return api.OK
}
