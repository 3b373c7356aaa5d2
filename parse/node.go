package parse

import (
	"shuttlecock/api"
	"shuttlecock/ast"
	"shuttlecock/lex"
)

// The types of variables.
const (
	typeInt = iota
	typeBool
)

func (t *text) program() ast.Program {
	var p ast.Program
	for t.is("node") {
		t.room(len(p.Nodes))
		p.Nodes = append(p.Nodes, t.node())
	}
	if t.next().Kind != lex.End {
		t.giveUp(api.ErrForm)
	}
	return p
}

func (t *text) node() ast.Node {
	var n ast.Node
	t.must("node")
	n.Name = t.name()
	t.must("(")
	if !t.is(")") {
		n.Ins = t.variables()
	}
	t.must(")", "returns", "(")
	n.Outs = t.variables()
	t.must(")", ";")
	if t.may("var") {
		n.Locals = t.locals()
	}
	t.must("let")
	for t.named() || t.is("(") {
		t.room(len(n.Eqs))
		n.Eqs = append(n.Eqs, t.equation())
	}
	t.must("tel")
	return n
}

// variables are those of groups with `;` between.
func (t *text) variables() []ast.Variable {
	all := t.group(nil)
	for t.may(";") {
		all = t.group(all)
	}
	return all
}

// locals are the variables of groups with `;` behind each.
func (t *text) locals() []ast.Variable {
	all := t.group(nil)
	t.must(";")
	for t.named() {
		all = t.group(all)
		t.must(";")
	}
	return all
}

// group puts a group's variables behind those of the same list that have
// come.
func (t *text) group(all []ast.Variable) []ast.Variable {
	names := t.names(len(all))
	t.must(":")
	kind := t.variableType()
	for _, name := range names {
		all = append(all, ast.Variable{Name: name, Type: kind})
	}
	return all
}

// names are names with `,` between, in a list that has n entries ahead of
// them.
func (t *text) names(n int) []string {
	all := []string{t.entry(n)}
	for t.may(",") {
		all = append(all, t.entry(n+len(all)))
	}
	return all
}

// entry is a name in a list that has n entries ahead of it. What is no name
// goes wrong by that, whether there is room or not.
func (t *text) entry(n int) string {
	if t.named() {
		t.room(n)
	}
	return t.name()
}

func (t *text) variableType() int {
	if t.may("int") {
		return typeInt
	}
	t.must("bool")
	return typeBool
}

func (t *text) equation() ast.Equation {
	names := t.leftSide()
	t.must("=")
	first := t.next()
	x := t.expression()
	if x.depth > mostDepth {
		panic(fault{at: first.At, why: api.ErrDeep})
	}
	t.must(";")
	return ast.Equation{Lhs: names, Rhs: x.expr}
}

func (t *text) leftSide() []string {
	if !t.may("(") {
		return []string{t.name()}
	}
	all := t.names(0)
	t.must(")")
	return all
}
