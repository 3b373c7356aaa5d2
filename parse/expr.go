package parse

import (
	"slices"

	"shuttlecock/api"
	"shuttlecock/ast"
	"shuttlecock/lex"
)

// How a level's operators join operands of the next level.
const (
	one   = iota // at most one of them comes
	left         // what has been made is the first operand of what follows
	right        // the second operand is of the level itself
)

// operator is an op of two, and its word or sign.
type operator struct {
	text string
	op   int
}

// level is how its operators join, and which they are.
type level struct {
	join int
	all  []operator
}

// levels are those of the operators of two, the loosest first.
var levels = [...]level{
	{right, []operator{{"->", ast.Arrow}}},
	{right, []operator{{"=>", ast.Implies}}},
	{left, []operator{{"or", ast.Or}, {"xor", ast.Xor}}},
	{left, []operator{{"and", ast.And}}},
	{one, []operator{{"=", ast.Eq}, {"<>", ast.Ne}, {"<", ast.Lt}, {"<=", ast.Le}, {">", ast.Gt}, {">=", ast.Ge}}},
	{left, []operator{{"+", ast.Add}, {"-", ast.Sub}}},
	{left, []operator{{"*", ast.Mul}, {"div", ast.Div}, {"mod", ast.Mod}}},
}

// The prefixes, by their ops.
var prefixes = [...]string{ast.Neg: "-", ast.Not: "not", ast.Pre: "pre"}

// tree is an expression, and its depth. That is told as it grows: a long sum
// is as deep as it is long, and too deep to ask it of layer 3, which goes
// down all of it.
type tree struct {
	expr  ast.Expr
	depth int
}

// over puts an expression over its Kids.
func over(e ast.Expr, kids ...tree) tree {
	below := 0
	e.Kids = slices.Grow(e.Kids, len(kids))
	for _, kid := range kids {
		e.Kids = append(e.Kids, kid.expr)
		below = max(below, kid.depth)
	}
	return tree{expr: e, depth: 1 + below}
}

func (t *text) expression() tree {
	if t.is("if") {
		return t.choice()
	}
	return t.level(0)
}

// choice is an if, which is open until its last expression has ended.
func (t *text) choice() tree {
	t.begin()
	whether := t.expression()
	t.must("then")
	then := t.expression()
	t.must("else")
	other := t.expression()
	t.end()
	return over(ast.Expr{Kind: ast.If}, whether, then, other)
}

// level is what stands of the level n.
func (t *text) level(n int) tree {
	if n == len(levels) {
		return t.prefixed()
	}
	x := t.level(n + 1)
	for {
		op, is := t.operator(n)
		if !is {
			return x
		}
		y := t.second(n)
		x = over(ast.Expr{Kind: ast.Bin, Op: op}, x, y)
		if levels[n].join != left {
			return x
		}
	}
}

// operator is the op of the level n whose word or sign comes next; false, if
// none does.
func (t *text) operator(n int) (int, bool) {
	for _, o := range levels[n].all {
		if t.is(o.text) {
			return o.op, true
		}
	}
	return 0, false
}

// second passes an operator of the level n, and is the operand behind it.
func (t *text) second(n int) tree {
	if levels[n].join != right {
		t.pass()
		return t.level(n + 1)
	}
	t.begin()
	x := t.level(n)
	t.end()
	return x
}

func (t *text) prefixed() tree {
	for op, prefix := range prefixes {
		if t.is(prefix) {
			t.begin()
			x := t.prefixed()
			t.end()
			return over(ast.Expr{Kind: ast.Un, Op: op}, x)
		}
	}
	return t.atom()
}

func (t *text) atom() tree {
	switch x := t.next(); {
	case x.Kind == lex.Number:
		t.pass()
		return over(ast.Expr{Kind: ast.Int, N: x.N})
	case t.may("false"):
		return over(ast.Expr{Kind: ast.Bool, N: 0})
	case t.may("true"):
		return over(ast.Expr{Kind: ast.Bool, N: 1})
	case x.Kind == lex.Name:
		return t.variableOrCall()
	}
	return t.bracket()
}

func (t *text) variableOrCall() tree {
	name := t.name()
	if t.is("(") {
		return over(ast.Expr{Kind: ast.Call, Name: name}, t.operands()...)
	}
	return over(ast.Expr{Kind: ast.Var, Name: name})
}

// operands are a call's, and its brackets. Behind a comma one has to come, so
// that there must be room for whatever comes.
func (t *text) operands() []tree {
	var all []tree
	t.begin()
	if !t.is(")") {
		all = append(all, t.expression())
	}
	for t.may(",") {
		t.room(len(all))
		all = append(all, t.expression())
	}
	t.must(")")
	t.end()
	return all
}

// bracket is an expression between brackets, or nothing that may stand.
func (t *text) bracket() tree {
	if !t.is("(") {
		t.giveUp(api.ErrForm)
	}
	t.begin()
	x := t.expression()
	t.must(")")
	t.end()
	return x
}
