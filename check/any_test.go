package check_test

import (
	"math/rand/v2"
	"slices"
	"strconv"

	"shuttlecock/ast"
)

// maker makes any programs: first ones that are sound, and then, with some
// change, ones that mostly are not.
type maker struct {
	*rand.Rand
	ast.Program
}

// anyProgram is that of a seed.
func anyProgram(seed uint64) ast.Program {
	m := &maker{Rand: rand.New(rand.NewPCG(seed, 7))}
	for i := range 1 + m.IntN(5) {
		m.Nodes = append(m.Nodes, m.head(i))
	}
	for i := range m.Nodes {
		m.equations(i)
	}
	for range []int{0, 1, 1, 1, 2, 3}[m.IntN(6)] {
		m.change(&m.Nodes[m.IntN(len(m.Nodes))])
	}
	return m.Program
}

// head is a node without equations.
func (m *maker) head(i int) ast.Node {
	n := ast.Node{Name: "n" + strconv.Itoa(i)}
	names := []string{"a", "b", "c", "d", "e", "f", "g", "h", "n0", "n1"}
	m.Shuffle(len(names), func(i, j int) { names[i], names[j] = names[j], names[i] })
	some := func(most int) []ast.Variable {
		var all []ast.Variable
		for range m.IntN(most + 1) {
			all = append(all, ast.Variable{Name: names[0], Type: m.IntN(2)})
			names = names[1:]
		}
		return all
	}
	n.Ins = some(3)
	n.Outs = append(some(2), ast.Variable{Name: names[0], Type: m.IntN(2)})
	names = names[1:]
	n.Locals = some(3)
	return n
}

// equations puts to a node what it lacks.
func (m *maker) equations(i int) {
	n := &m.Nodes[i]
	left := slices.Concat(n.Outs, n.Locals)
	m.Shuffle(len(left), func(i, j int) { left[i], left[j] = left[j], left[i] })
	for len(left) > 0 {
		names := []string{left[0].Name}
		e, is := m.call(i, left[:min(len(left), 2)], 2)
		if is {
			names = append(names, left[1].Name)
		} else {
			e = m.expr(i, left[0].Type, 1+m.IntN(5))
		}
		n.Eqs = append(n.Eqs, ast.Equation{Lhs: names, Rhs: e})
		left = left[len(names):]
	}
}

// call is a call, in the node i, of another one whose Outs are two, of these
// types; false, if there is none.
func (m *maker) call(i int, outs []ast.Variable, room int) (ast.Expr, bool) {
	for _, j := range m.Perm(len(m.Nodes)) {
		o := m.Nodes[j]
		if len(outs) == 2 && letters(o.Outs) == letters(outs) && m.may(i, j) {
			return m.given(i, o, room), true
		}
	}
	return ast.Expr{}, false
}

// may: may the node i call the node j? Mostly they are as they must be for no
// circle to come of it.
func (m *maker) may(i, j int) bool {
	return (i*7+3)%5 > (j*7+3)%5 || m.IntN(30) == 0
}

// given is a call of a node, with what it is given.
func (m *maker) given(i int, o ast.Node, room int) ast.Expr {
	e := ast.Expr{Kind: ast.Call, Name: o.Name}
	for _, v := range o.Ins {
		e.Kids = append(e.Kids, m.expr(i, v.Type, room-1))
	}
	return e
}

// expr is an expression of a type in the node i.
func (m *maker) expr(i, kind, room int) ast.Expr {
	x := m.IntN(6)
	if room <= 1 || x == 0 {
		return m.plain(i, kind)
	}
	if x == 1 {
		for _, j := range m.Perm(len(m.Nodes)) {
			if outs := m.Nodes[j].Outs; len(outs) == 1 && outs[0].Type == kind && m.may(i, j) {
				return m.given(i, m.Nodes[j], room)
			}
		}
	}
	e := ast.Expr{Kind: []int{ast.Un, ast.Bin, ast.If}[m.IntN(3)]}
	if e.Kind != ast.If {
		e.Op = m.IntN([]int{ast.Un: 3, ast.Bin: 16}[e.Kind])
	}
	var fits []string
	for _, one := range [][]string{{"i>i", "ii>i", "bii>i"}, {"b>b", "bb>b", "ii>b", "bbb>b"}}[kind] {
		if slices.Contains(allOf(takes(e)), one) {
			fits = append(fits, one)
		}
	}
	if len(fits) == 0 {
		return m.expr(i, kind, room)
	}
	for _, c := range fits[m.IntN(len(fits))] {
		if c == '>' {
			break
		}
		e.Kids = append(e.Kids, m.expr(i, map[rune]int{'i': 0, 'b': 1}[c], room-1))
	}
	return e
}

// plain is an expression of a type without Kids.
func (m *maker) plain(i, kind int) ast.Expr {
	for _, v := range variables(m.Nodes[i]) {
		if v.Type == kind && m.IntN(2) == 0 {
			return ast.Expr{Kind: ast.Var, Name: v.Name}
		}
	}
	return ast.Expr{Kind: kind, N: m.Int64N(2)}
}

// change changes something of a node that is sound.
func (m *maker) change(n *ast.Node) {
	eq := func() *ast.Equation { return &n.Eqs[m.IntN(len(n.Eqs))] }
	other := m.Nodes[m.IntN(len(m.Nodes))]
	name := variables(other)[m.IntN(len(variables(other)))].Name
	if len(n.Eqs) == 0 {
		return
	}
	switch m.IntN(15) {
	case 0:
		n.Name = other.Name
	case 1:
		list := []*[]ast.Variable{&n.Ins, &n.Outs, &n.Locals}[m.IntN(3)]
		*list = append(*list, ast.Variable{Name: name, Type: m.IntN(2)})
	case 2:
		n.Outs[0].Type = 1 - n.Outs[0].Type
	case 3:
		n.Outs[0].Name = name
	case 4:
		n.Eqs = slices.Delete(n.Eqs, 0, 1)
	case 5:
		q := *eq()
		n.Eqs = append(n.Eqs, ast.Equation{Lhs: slices.Clone(q.Lhs), Rhs: q.Rhs})
	case 6:
		l := eq().Lhs
		l[m.IntN(len(l))] = name
	case 7:
		q := eq()
		q.Lhs = append(q.Lhs, name)
	case 8:
		q := eq()
		q.Lhs = append([]string{name}, q.Lhs...)
	case 9:
		n.Eqs = append(n.Eqs, ast.Equation{Lhs: []string{name}, Rhs: m.plain(0, m.IntN(2))})
	case 10:
		n.Ins = n.Ins[:len(n.Ins)/2]
	default:
		m.below(&eq().Rhs, other, name)
	}
}

// below changes something of an expression, or of what is below it.
func (m *maker) below(e *ast.Expr, other ast.Node, name string) {
	for len(e.Kids) > 0 && m.IntN(3) > 0 {
		e.Kids = slices.Clone(e.Kids)
		e = &e.Kids[m.IntN(len(e.Kids))]
	}
	switch m.IntN(7) {
	case 0:
		*e = ast.Expr{Kind: ast.Var, Name: name}
	case 1:
		*e = ast.Expr{Kind: m.IntN(2), N: m.Int64N(2)}
	case 2:
		*e = ast.Expr{Kind: ast.Un, Op: m.IntN(3), Kids: []ast.Expr{*e}}
	case 3:
		*e = ast.Expr{Kind: ast.Bin, Op: m.IntN(16), Kids: []ast.Expr{*e, *e}}
	case 4:
		*e = m.given(m.IntN(len(m.Nodes)), other, 2)
	case 5:
		*e = ast.Expr{Kind: ast.Call, Name: other.Name, Kids: []ast.Expr{*e}}
	case 6:
		*e = ast.Expr{Kind: m.IntN(9) - 1, Op: m.IntN(3), Kids: e.Kids, Name: e.Name}
	}
}
