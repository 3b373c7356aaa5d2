// Package ops tells of which types the ops of programs, which are those of
// diagrams too, ask their operands to be, and of which they are themselves.
package ops

import "shuttlecock/ast"

// The types. What an op asks, or is, may also be the same as its first
// operand.
const (
	Int = iota
	Bool
	same
)

// op is of which type all its operands have to be, and of which it is itself.
type op struct{ of, is int }

// ones are the ops of one, by their numbers.
var ones = [...]op{
	ast.Neg: {of: Int, is: Int},
	ast.Not: {of: Bool, is: Bool},
	ast.Pre: {of: same, is: same},
}

// twos are the ops of two, by their numbers.
var twos = [...]op{
	ast.Arrow:   {of: same, is: same},
	ast.Implies: {of: Bool, is: Bool},
	ast.Or:      {of: Bool, is: Bool},
	ast.Xor:     {of: Bool, is: Bool},
	ast.And:     {of: Bool, is: Bool},
	ast.Eq:      {of: same, is: Bool},
	ast.Ne:      {of: same, is: Bool},
	ast.Lt:      {of: Int, is: Bool},
	ast.Le:      {of: Int, is: Bool},
	ast.Gt:      {of: Int, is: Bool},
	ast.Ge:      {of: Int, is: Bool},
	ast.Add:     {of: Int, is: Int},
	ast.Sub:     {of: Int, is: Int},
	ast.Mul:     {of: Int, is: Int},
	ast.Div:     {of: Int, is: Int},
	ast.Mod:     {of: Int, is: Int},
}

// either is what an if asks of its second and third, and of which it is.
var either = op{of: same, is: same}

// One is the type of an op of one that there is, of an operand of this type;
// false, if it asks for another one.
func One(number int, operands []int) (int, bool) {
	return ones[number].made(operands)
}

// Two is the type of an op of two that there is, of operands of these types;
// false, if it asks for others.
func Two(number int, operands []int) (int, bool) {
	return twos[number].made(operands)
}

// If is the type of an if of three operands of these types; false, if it asks
// for others.
func If(operands []int) (int, bool) {
	if operands[0] != Bool {
		return 0, false
	}
	return either.made(operands[1:])
}

func (o op) made(operands []int) (int, bool) {
	first := operands[0]
	for _, operand := range operands {
		if operand != first || o.of != same && operand != o.of {
			return 0, false
		}
	}
	if o.is == same {
		return first, true
	}
	return o.is, true
}
