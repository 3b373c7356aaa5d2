package sem_test

import (
	"math/rand/v2"
	"slices"
	"strconv"

	"shuttlecock/ast"
	"shuttlecock/sem"
)

// maker makes any programs that have causes.
type maker struct {
	*rand.Rand
	ast.Program
	level []int // a node calls those of lower levels
}

// scope is where an expression stands: in a node, all variables of which may
// be used below pre, and some at once.
type scope struct {
	node       int
	once, ever []ast.Variable
}

// anyProgram is that of a seed, and what may come into its nodes.
func anyProgram(seed uint64) (ast.Program, [][][]sem.Value) {
	m := &maker{Rand: rand.New(rand.NewPCG(seed, 9))}
	m.level = m.Perm(1 + m.IntN(4))
	for i := range m.level {
		m.Nodes = append(m.Nodes, m.head(i))
	}
	for i := range m.Nodes {
		m.equations(i)
	}
	var ins [][][]sem.Value
	for _, n := range m.Nodes {
		ins = append(ins, m.trace(n))
	}
	return m.Program, ins
}

// variables are some, with a beginning of their names.
func (m *maker) variables(begin string, least, most int) []ast.Variable {
	var all []ast.Variable
	for i := range least + m.IntN(most-least+1) {
		all = append(all, ast.Variable{Name: begin + strconv.Itoa(i), Type: m.IntN(2)})
	}
	return all
}

// head is a node without equations.
func (m *maker) head(i int) ast.Node {
	return ast.Node{Name: "f" + strconv.Itoa(i), Ins: m.variables("i", 0, 3), Outs: m.variables("o", 1, 3), Locals: m.variables("l", 0, 3)}
}

// equations puts to a node what it lacks: each uses at once what was defined
// ahead of it, whatever their order is at last.
func (m *maker) equations(i int) {
	n := &m.Nodes[i]
	left := slices.Concat(n.Outs, n.Locals)
	m.Shuffle(len(left), func(i, j int) { left[i], left[j] = left[j], left[i] })
	s := scope{i, slices.Clone(n.Ins), slices.Concat(n.Ins, n.Outs, n.Locals)}
	for len(left) > 0 {
		e, count := m.call(s, left)
		if count == 0 || m.IntN(3) == 0 {
			e, count = m.expr(s, left[0].Type, 1+m.IntN(5)), 1
		}
		q := ast.Equation{Rhs: e}
		for _, v := range left[:count] {
			q.Lhs = append(q.Lhs, v.Name)
		}
		n.Eqs = append(n.Eqs, q)
		s.once = append(s.once, left[:count]...)
		left = left[count:]
	}
	m.Shuffle(len(n.Eqs), func(i, j int) { n.Eqs[i], n.Eqs[j] = n.Eqs[j], n.Eqs[i] })
}

// call is a call of any node whose Outs are of the types of the first of some
// variables, and how many; 0, if there is none.
func (m *maker) call(s scope, left []ast.Variable) (ast.Expr, int) {
	for _, j := range m.Perm(len(m.Nodes)) {
		o := m.Nodes[j]
		if m.level[j] < m.level[s.node] && len(o.Outs) <= len(left) && slices.EqualFunc(o.Outs, left[:len(o.Outs)], func(a, b ast.Variable) bool { return a.Type == b.Type }) {
			return m.given(s, o, 2), len(o.Outs)
		}
	}
	return ast.Expr{}, 0
}

// given is a call of a node.
func (m *maker) given(s scope, n ast.Node, room int) ast.Expr {
	e := ast.Expr{Kind: ast.Call, Name: n.Name}
	for _, v := range n.Ins {
		e.Kids = append(e.Kids, m.expr(s, v.Type, room))
	}
	return e
}

// expr is any expression of a type, mostly no deeper than room.
func (m *maker) expr(s scope, kind, room int) ast.Expr {
	if room <= 1 {
		return m.leaf(s, kind)
	}
	switch m.IntN(8) {
	case 0:
		return m.leaf(s, kind)
	case 1:
		s.once = s.ever
		return ast.Expr{Kind: ast.Un, Op: ast.Pre, Kids: []ast.Expr{m.expr(s, kind, room-1)}}
	case 2:
		return m.two(s, ast.Arrow, kind, room)
	case 3:
		kids := []ast.Expr{m.expr(s, 1, room-1), m.expr(s, kind, room-1), m.expr(s, kind, room-1)}
		return ast.Expr{Kind: ast.If, Kids: kids}
	case 4:
		return ast.Expr{Kind: ast.Un, Op: kind, Kids: []ast.Expr{m.expr(s, kind, room-1)}}
	case 5:
		if e, count := m.call(s, []ast.Variable{{Type: kind}}); count == 1 {
			return e
		}
	}
	if kind == 0 {
		return m.two(s, ast.Add+m.IntN(5), 0, room)
	}
	op := ast.Implies + m.IntN(10)
	return m.two(s, op, [...]int{ast.Implies: 1, ast.Or: 1, ast.Xor: 1, ast.And: 1, ast.Eq: m.IntN(2), ast.Ne: m.IntN(2), ast.Ge: 0}[op], room)
}

// two is an op of two, of operands of a type.
func (m *maker) two(s scope, op, kind, room int) ast.Expr {
	return ast.Expr{Kind: ast.Bin, Op: op, Kids: []ast.Expr{m.expr(s, kind, room-1), m.expr(s, kind, room-1)}}
}

// leaf is a variable of a type, or what stands for itself.
func (m *maker) leaf(s scope, kind int) ast.Expr {
	for _, i := range m.Perm(len(s.once)) {
		if s.once[i].Type == kind && m.IntN(5) > 0 {
			return ast.Expr{Kind: ast.Var, Name: s.once[i].Name}
		}
	}
	if kind == 1 {
		return ast.Expr{Kind: ast.Bool, N: m.Int64N(2)}
	}
	return ast.Expr{Kind: ast.Int, N: []int64{0, 1, 2, 3, 10, 1 << 40, 1<<63 - 1}[m.IntN(7)]}
}

// trace is what may come into a node.
func (m *maker) trace(n ast.Node) [][]sem.Value {
	ins := make([][]sem.Value, m.IntN(8))
	for i := range ins {
		for _, v := range n.Ins {
			ins[i] = append(ins[i], m.value(v.Type))
		}
	}
	return ins
}

// value is any one of a type.
func (m *maker) value(kind int) sem.Value {
	if kind == 1 {
		return sem.Value{Kind: sem.Bool, N: m.Int64N(2)}
	}
	return sem.Value{Kind: sem.Int, N: ints[m.IntN(len(ints))]}
}
