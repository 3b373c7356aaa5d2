package print

import (
	"strconv"

	"shuttlecock/ast"
)

// The levels that are asked of by number.
const (
	loosest   = -1 // of an if, which stands in brackets wherever it is an operand
	ofArrow   = 0
	ofImplies = 1
	ofEquals  = 4
	ofPrefix  = 7
	tightest  = 8 // of all that has no operator
)

// operator is the word or the sign of an op of two, and its level.
type operator struct {
	text  string
	level int
}

// operators are those of the ops of two, by their numbers.
var operators = [...]operator{
	ast.Arrow:   {"->", ofArrow},
	ast.Implies: {"=>", ofImplies},
	ast.Or:      {"or", 2},
	ast.Xor:     {"xor", 2},
	ast.And:     {"and", 3},
	ast.Eq:      {"=", ofEquals},
	ast.Ne:      {"<>", ofEquals},
	ast.Lt:      {"<", ofEquals},
	ast.Le:      {"<=", ofEquals},
	ast.Gt:      {">", ofEquals},
	ast.Ge:      {">=", ofEquals},
	ast.Add:     {"+", 5},
	ast.Sub:     {"-", 5},
	ast.Mul:     {"*", 6},
	ast.Div:     {"div", 6},
	ast.Mod:     {"mod", 6},
}

// The prefixes, by their ops.
var prefixes = [...]string{ast.Neg: "-", ast.Not: "not", ast.Pre: "pre"}

// expr writes an expression that is right.
func (w *writer) expr(e ast.Expr) {
	switch e.Kind {
	case ast.Int:
		w.put(strconv.FormatInt(e.N, 10))
	case ast.Bool:
		w.put(strconv.FormatBool(e.N == 1))
	case ast.Var:
		w.put(e.Name)
	case ast.Un:
		w.prefixed(e)
	case ast.Bin:
		w.joined(e)
	case ast.If:
		w.choice(e)
	case ast.Call:
		w.call(e)
	}
}

func (w *writer) prefixed(e ast.Expr) {
	kid := e.Kids[0]
	w.put(prefixes[e.Op])
	if e.Op != ast.Neg || negative(kid) {
		w.put(" ")
	}
	w.operand(kid, ofPrefix)
}

// negative: does it begin with a `-` of its own? Behind another one that
// would begin a note.
func negative(e ast.Expr) bool {
	return e.Kind == ast.Un && e.Op == ast.Neg
}

func (w *writer) joined(e ast.Expr) {
	o := operators[e.Op]
	first, second := asked(o.level)
	w.operand(e.Kids[0], first)
	w.put(" ", o.text, " ")
	w.operand(e.Kids[1], second)
}

// asked is what level the places on the left and on the right of an op of a
// level ask.
func asked(level int) (int, int) {
	switch level {
	case ofArrow, ofImplies:
		return level + 1, level
	case ofEquals:
		return level + 1, level + 1
	}
	return level, level + 1
}

// operand writes an expression at a place that asks a level.
func (w *writer) operand(e ast.Expr, asks int) {
	if level(e) >= asks {
		w.expr(e)
		return
	}
	w.put("(")
	w.expr(e)
	w.put(")")
}

func level(e ast.Expr) int {
	switch e.Kind {
	case ast.If:
		return loosest
	case ast.Bin:
		return operators[e.Op].level
	case ast.Un:
		return ofPrefix
	}
	return tightest
}

func (w *writer) choice(e ast.Expr) {
	for i, word := range [...]string{"if ", " then ", " else "} {
		w.put(word)
		w.expr(e.Kids[i])
	}
}

func (w *writer) call(e ast.Expr) {
	w.put(e.Name, "(")
	for i, kid := range e.Kids {
		if i > 0 {
			w.put(", ")
		}
		w.expr(kid)
	}
	w.put(")")
}
