package ast

import "slices"

// Same: is all the same?
func (e Expr) Same(o Expr) bool {
	return e.Kind == o.Kind && e.Op == o.Op && e.N == o.N && e.Name == o.Name &&
		slices.EqualFunc(e.Kids, o.Kids, Expr.Same)
}

// Same: is all the same?
func (p Program) Same(o Program) bool {
	return slices.EqualFunc(p.Nodes, o.Nodes, Node.same)
}

func (n Node) same(o Node) bool {
	return n.Name == o.Name && slices.Equal(n.Ins, o.Ins) && slices.Equal(n.Outs, o.Outs) &&
		slices.Equal(n.Locals, o.Locals) && slices.EqualFunc(n.Eqs, o.Eqs, Equation.same)
}

func (q Equation) same(o Equation) bool {
	return slices.Equal(q.Lhs, o.Lhs) && q.Rhs.Same(o.Rhs)
}
