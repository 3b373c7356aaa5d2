package check

import (
	"slices"

	"shuttlecock/api"
	"shuttlecock/ast"
)

// The types. What an op asks, or makes, may also be the same as its first
// operand's.
const (
	typeInt = iota
	typeBool
	same
)

// op is of which type all its operands have to be, and of which it is itself.
type op struct{ of, is int }

// ones are the ops of one, by their numbers.
var ones = [...]op{
	ast.Neg: {of: typeInt, is: typeInt},
	ast.Not: {of: typeBool, is: typeBool},
	ast.Pre: {of: same, is: same},
}

// twos are the ops of two, by their numbers.
var twos = [...]op{
	ast.Arrow:   {of: same, is: same},
	ast.Implies: {of: typeBool, is: typeBool},
	ast.Or:      {of: typeBool, is: typeBool},
	ast.Xor:     {of: typeBool, is: typeBool},
	ast.And:     {of: typeBool, is: typeBool},
	ast.Eq:      {of: same, is: typeBool},
	ast.Ne:      {of: same, is: typeBool},
	ast.Lt:      {of: typeInt, is: typeBool},
	ast.Le:      {of: typeInt, is: typeBool},
	ast.Gt:      {of: typeInt, is: typeBool},
	ast.Ge:      {of: typeInt, is: typeBool},
	ast.Add:     {of: typeInt, is: typeInt},
	ast.Sub:     {of: typeInt, is: typeInt},
	ast.Mul:     {of: typeInt, is: typeInt},
	ast.Div:     {of: typeInt, is: typeInt},
	ast.Mod:     {of: typeInt, is: typeInt},
}

// either is what an if asks of its second and third, and what it makes.
var either = op{of: same, is: same}

// results are those of an expression that is right, in a node; its Kids are
// asked first.
func (t *Types) results(n node, e ast.Expr) ([]int, api.Errno) {
	kids, errno := t.operands(n, e.Kids)
	if errno != api.OK {
		return nil, errno
	}
	switch e.Kind {
	case ast.Int:
		return []int{typeInt}, api.OK
	case ast.Bool:
		return []int{typeBool}, api.OK
	case ast.Var:
		kind, is := n.variables[e.Name]
		if !is {
			return nil, api.ErrName
		}
		return []int{kind}, api.OK
	case ast.Un:
		return ones[e.Op].made(kids)
	case ast.Bin:
		return twos[e.Op].made(kids)
	case ast.If:
		if kids[0] != typeBool {
			return nil, api.ErrType
		}
		return either.made(kids[1:])
	}
	return t.called(e.Name, kids)
}

// operands are the types of an expression's Kids, each of which has to have
// one result.
func (t *Types) operands(n node, kids []ast.Expr) ([]int, api.Errno) {
	all := make([]int, len(kids))
	for i, kid := range kids {
		l, errno := t.results(n, kid)
		if errno != api.OK {
			return nil, errno
		}
		if len(l) != 1 {
			return nil, api.ErrArity
		}
		all[i] = l[0]
	}
	return all, api.OK
}

// made is the type of what an op makes of operands of these types.
func (o op) made(kids []int) ([]int, api.Errno) {
	first := kids[0]
	for _, kid := range kids {
		if kid != first || o.of != same && kid != o.of {
			return nil, api.ErrType
		}
	}
	if o.is == same {
		return []int{first}, api.OK
	}
	return []int{o.is}, api.OK
}

// called are the results of the first node of a name, which is given
// operands of these types.
func (t *Types) called(name string, kids []int) ([]int, api.Errno) {
	i, is := t.numbers[name]
	if !is {
		return nil, api.ErrName
	}
	n := t.nodes[i]
	if e := match(kids, n.ins); e != api.OK {
		return nil, e
	}
	return slices.Clone(n.outs), api.OK
}

// match: are types as many as those that are asked, and the same, one by one?
func match(types, asked []int) api.Errno {
	if len(types) != len(asked) {
		return api.ErrArity
	}
	if !slices.Equal(types, asked) {
		return api.ErrType
	}
	return api.OK
}
