package check_test

import (
	"slices"
	"strings"

	"shuttlecock/api"
	"shuttlecock/ast"
)

// fault is the node of which something is asked that is not so, and its error.
type fault struct {
	node int
	e    api.Errno
}

// second is a second reading of the chapter: it asks one thing after the
// other, of the program as it stands, and ends at the first that is not so.
// Types are letters: i and b.
type second struct {
	ast.Program
	at int // the node of which it asks
}

func (s *second) ask(is bool, e api.Errno) {
	if !is {
		panic(fault{s.at, e})
	}
}

// variables are a node's, in order.
func variables(n ast.Node) []ast.Variable {
	return slices.Concat(n.Ins, n.Outs, n.Locals)
}

// letters are the types of variables.
func letters(all []ast.Variable) string {
	s := ""
	for _, v := range all {
		s += "ib"[v.Type : v.Type+1]
	}
	return s
}

// variable is the letter of one of them; nothing, if there is none.
func variable(n ast.Node, name string) string {
	for _, v := range variables(n) {
		if v.Name == name {
			return letters([]ast.Variable{v})
		}
	}
	return ""
}

// reads is what the chapter tells of a program that is right.
func reads(p ast.Program) (f fault) {
	defer func() {
		if given := recover(); given != nil {
			f = given.(fault)
		}
	}()
	s := &second{Program: p}
	for i, n := range p.Nodes {
		s.at = i
		for _, ahead := range p.Nodes[:i] {
			s.ask(ahead.Name != n.Name, api.ErrName)
		}
		for j, v := range variables(n) {
			for _, o := range variables(n)[:j] {
				s.ask(v.Name != o.Name, api.ErrName)
			}
		}
		for j := range n.Eqs {
			s.equation(n, j)
		}
		for _, v := range slices.Concat(n.Outs, n.Locals) {
			s.ask(slices.ContainsFunc(n.Eqs, func(q ast.Equation) bool { return slices.Contains(q.Lhs, v.Name) }), api.ErrDefine)
		}
	}
	reach := s.reach()
	for i := range p.Nodes {
		s.at = i
		s.ask(!reach[i][i], api.ErrCycle)
	}
	return fault{-1, api.OK}
}

func (s *second) equation(n ast.Node, j int) {
	var ahead []string
	for _, q := range n.Eqs[:j] {
		ahead = append(ahead, q.Lhs...)
	}
	q, types := n.Eqs[j], ""
	for _, name := range q.Lhs {
		s.ask(variable(n, name) != "", api.ErrName)
		s.ask(!slices.ContainsFunc(n.Ins, func(v ast.Variable) bool { return v.Name == name }), api.ErrDefine)
		s.ask(!slices.Contains(ahead, name), api.ErrDefine)
		ahead = append(ahead, name)
		types += variable(n, name)
	}
	l := s.results(n, q.Rhs)
	s.ask(len(l) == len(types), api.ErrArity)
	s.ask(l == types, api.ErrType)
}

// takes are what an op may take, and what it then makes.
func takes(e ast.Expr) string {
	switch e.Kind {
	case ast.Un:
		return []string{"i>i", "b>b", "i>i b>b"}[e.Op]
	case ast.If:
		return "bii>i bbb>b"
	}
	switch e.Op {
	case ast.Arrow:
		return "ii>i bb>b"
	case ast.Implies, ast.Or, ast.Xor, ast.And:
		return "bb>b"
	case ast.Eq, ast.Ne:
		return "ii>b bb>b"
	case ast.Lt, ast.Le, ast.Gt, ast.Ge:
		return "ii>b"
	}
	return "ii>i"
}

func (s *second) results(n ast.Node, e ast.Expr) string {
	kids := ""
	for _, kid := range e.Kids {
		l := s.results(n, kid)
		s.ask(len(l) == 1, api.ErrArity)
		kids += l
	}
	switch e.Kind {
	case ast.Int:
		return "i"
	case ast.Bool:
		return "b"
	case ast.Var:
		s.ask(variable(n, e.Name) != "", api.ErrName)
		return variable(n, e.Name)
	case ast.Call:
		i := slices.IndexFunc(s.Nodes, func(o ast.Node) bool { return o.Name == e.Name })
		s.ask(i >= 0, api.ErrName)
		s.ask(len(kids) == len(s.Nodes[i].Ins), api.ErrArity)
		s.ask(kids == letters(s.Nodes[i].Ins), api.ErrType)
		return letters(s.Nodes[i].Outs)
	}
	for _, one := range strings.Fields(takes(e)) {
		if from, to, _ := strings.Cut(one, ">"); from == kids {
			return to
		}
	}
	s.ask(false, api.ErrType)
	return ""
}

// readsExpr is what the chapter tells of an expression that is right, in a
// node that there is.
func readsExpr(p ast.Program, node int, e ast.Expr) (l string, errno api.Errno) {
	defer func() {
		if given := recover(); given != nil {
			l, errno = "", given.(fault).e
		}
	}()
	s := &second{Program: p}
	return s.results(p.Nodes[node], e), api.OK
}

// calls: does a call of a node stand in another one?
func calls(n ast.Node, name string) bool {
	return slices.ContainsFunc(n.Eqs, func(q ast.Equation) bool {
		for e := range q.Rhs.Walk() {
			if e.Kind == ast.Call && e.Name == name {
				return true
			}
		}
		return false
	})
}

// reach tells which nodes call which, also by way of others.
func (s *second) reach() [][]bool {
	all := make([][]bool, len(s.Nodes))
	for i, n := range s.Nodes {
		for _, o := range s.Nodes {
			all[i] = append(all[i], calls(n, o.Name))
		}
	}
	for k := range all {
		for i := range all {
			for j := range all {
				all[i][j] = all[i][j] || all[i][k] && all[k][j]
			}
		}
	}
	return all
}

// order puts, one by one, the least node behind that has not come, if all
// that it calls have.
func order(p ast.Program) []int {
	var all []int
	for len(all) < len(p.Nodes) {
		for i, n := range p.Nodes {
			waits := false
			for j, o := range p.Nodes {
				waits = waits || calls(n, o.Name) && !slices.Contains(all, j)
			}
			if !waits && !slices.Contains(all, i) {
				all = append(all, i)
				break
			}
		}
	}
	return all
}
