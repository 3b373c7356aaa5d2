package sem_test

import (
	"slices"
	"strconv"

	"shuttlecock/ast"
	"shuttlecock/sem"
)

// second is a second reading of what a call, or the node that is run, means:
// it goes back from what is asked to what that is made of, also to the
// instants ahead. Values are words.
type second struct {
	ast.Program
	node  ast.Node
	in    func(i, at int) string
	told  map[asked]string
	calls map[*ast.Expr]*second
}

// asked is a variable at an instant.
type asked struct {
	name string
	at   int
}

// reader is that of a node, with what comes in.
func reader(p ast.Program, node string, in func(i, at int) string) *second {
	i := slices.IndexFunc(p.Nodes, func(n ast.Node) bool { return n.Name == node })
	return &second{p, p.Nodes[i], in, map[asked]string{}, map[*ast.Expr]*second{}}
}

// reads is what goes out of a node.
func reads(p ast.Program, node string, ins [][]sem.Value) string {
	s := reader(p, node, func(i, at int) string { return word(ins[at][i]) })
	var all [][]sem.Value
	for at := range ins {
		var l []sem.Value
		for _, v := range s.node.Outs {
			l = append(l, value(s.variable(v.Name, at)))
		}
		all = append(all, l)
	}
	return told(all)
}

// variable is the value of a variable at an instant; each is told once.
func (s *second) variable(name string, at int) string {
	if _, is := s.told[asked{name, at}]; !is {
		s.told[asked{name, at}] = s.find(name, at)
	}
	return s.told[asked{name, at}]
}

func (s *second) find(name string, at int) string {
	for i, v := range s.node.Ins {
		if v.Name == name {
			return s.in(i, at)
		}
	}
	for i, q := range s.node.Eqs {
		if place := slices.Index(q.Lhs, name); place >= 0 {
			return s.expr(&s.node.Eqs[i].Rhs, place, at)
		}
	}
	panic(name)
}

// expr is the value of an expression's result at an instant.
func (s *second) expr(e *ast.Expr, place, at int) string {
	kid := func(i int) string { return s.expr(&e.Kids[i], 0, at) }
	switch e.Kind {
	case ast.Int:
		return strconv.FormatInt(e.N, 10)
	case ast.Bool:
		return said(e.N == 1)
	case ast.Var:
		return s.variable(e.Name, at)
	case ast.Un:
		if e.Op != ast.Pre {
			return readsOne(ones[e.Op], kid(0))
		}
		if at == 0 {
			return "nil"
		}
		return s.expr(&e.Kids[0], 0, at-1)
	case ast.Bin:
		if e.Op != ast.Arrow {
			return readsTwo(twos[e.Op], kid(0), kid(1))
		}
		return kid(min(at, 1))
	case ast.If:
		return readsIf(kid(0), kid(1), kid(2))
	}
	callee := s.called(e)
	return callee.variable(callee.node.Outs[place].Name, at)
}

// called is the reader of a call: the one of that place.
func (s *second) called(e *ast.Expr) *second {
	if s.calls[e] == nil {
		s.calls[e] = reader(s.Program, e.Name, func(i, at int) string { return s.expr(&e.Kids[i], 0, at) })
	}
	return s.calls[e]
}

// weight is a node's.
func weight(p ast.Program, node string) int {
	i := slices.IndexFunc(p.Nodes, func(n ast.Node) bool { return n.Name == node })
	all := 1
	for _, q := range p.Nodes[i].Eqs {
		for e := range q.Rhs.Walk() {
			if e.Kind == ast.Call {
				all += weight(p, e.Name)
			}
		}
	}
	return all
}
