package check

import (
	"slices"

	"shuttlecock/api"
	"shuttlecock/ast"
	"shuttlecock/graph"
)

// node is what is kept of a node: the types of its Ins and Outs, and those of
// all its variables by their names.
type node struct {
	ins, outs []int
	variables map[string]int
}

func newNode(n ast.Node) node {
	all := map[string]int{}
	for _, v := range slices.Concat(n.Ins, n.Outs, n.Locals) {
		all[v.Name] = v.Type
	}
	return node{ins: types(n.Ins), outs: types(n.Outs), variables: all}
}

func types(variables []ast.Variable) []int {
	all := make([]int, len(variables))
	for i, v := range variables {
		all[i] = v.Type
	}
	return all
}

// newTypes are those of a program of which nothing is asked yet.
func newTypes(p ast.Program) *Types {
	t := &Types{numbers: map[string]int{}}
	for i, n := range p.Nodes {
		if _, is := t.numbers[n.Name]; !is {
			t.numbers[n.Name] = i
		}
		t.nodes = append(t.nodes, newNode(n))
	}
	return t
}

// sound are a program's types, -1 and OK; or nothing, the node that is not
// sound first, and the error.
func sound(p ast.Program) (*Types, int, api.Errno) {
	if !p.Right() {
		return nil, -1, api.ErrArg
	}
	t := newTypes(p)
	for i, n := range p.Nodes {
		if e := t.sound(i, n); e != api.OK {
			return nil, i, e
		}
	}
	calls := t.calls(p)
	order, is := graph.Order(calls)
	if !is {
		return nil, graph.First(calls), api.ErrCycle
	}
	t.order = order
	return t, -1, api.OK
}

// sound: is a node, but for what it calls by way of others?
func (t *Types) sound(i int, n ast.Node) api.Errno {
	if t.numbers[n.Name] != i {
		return api.ErrName
	}
	if len(t.nodes[i].variables) < len(n.Ins)+len(n.Outs)+len(n.Locals) {
		return api.ErrName
	}
	defined := map[string]bool{}
	for _, v := range n.Ins {
		defined[v.Name] = true
	}
	for _, q := range n.Eqs {
		if e := t.equation(t.nodes[i], q, defined); e != api.OK {
			return e
		}
	}
	for _, v := range slices.Concat(n.Outs, n.Locals) {
		if !defined[v.Name] {
			return api.ErrDefine
		}
	}
	return api.OK
}

// equation: is one sound? What it defines is put to what is defined.
func (t *Types) equation(n node, q ast.Equation, defined map[string]bool) api.Errno {
	asked := make([]int, len(q.Lhs))
	for i, name := range q.Lhs {
		kind, is := n.variables[name]
		if !is {
			return api.ErrName
		}
		if defined[name] {
			return api.ErrDefine
		}
		defined[name] = true
		asked[i] = kind
	}
	l, e := t.results(n, q.Rhs)
	if e != api.OK {
		return e
	}
	return match(l, asked)
}

// calls are, of each node, the numbers of those that it calls, each once, as
// a call may stand in it any number of times.
func (t *Types) calls(p ast.Program) [][]int {
	all := make([][]int, len(p.Nodes))
	for i, n := range p.Nodes {
		seen := map[string]bool{}
		for _, q := range n.Eqs {
			for e := range q.Rhs.Walk() {
				if e.Kind == ast.Call && !seen[e.Name] {
					seen[e.Name] = true
					all[i] = append(all[i], t.numbers[e.Name])
				}
			}
		}
	}
	return all
}
