package sem

import "shuttlecock/ast"

// either is what `=` and `<>` ask: two ints, or two bools.
const either = -1

// unary is an op of one: the kind that it asks, and what it makes of a
// number.
type unary struct {
	asks int
	does func(n int64) Value
}

// binary is an op of two: the kind that it asks of both, and what it makes of
// their numbers.
type binary struct {
	asks int
	does func(a, b int64) Value
}

// unaries are the ops of one, by their numbers, but for pre, which makes
// nothing of a value of the same instant.
func unaries() [ast.Not + 1]unary {
	return [...]unary{
		ast.Neg: {Int, func(n int64) Value { return Of(-n) }},
		ast.Not: {Bool, func(n int64) Value { return Truth(n != 1) }},
	}
}

// binaries are the ops of two, by their numbers. The arrow's place is empty,
// as it asks besides which instant it is.
func binaries() [ast.Mod + 1]binary {
	return [...]binary{
		ast.Implies: {Bool, func(a, b int64) Value { return Truth(b == 1 || a != 1) }},
		ast.Or:      {Bool, func(a, b int64) Value { return Truth(a == 1 || b == 1) }},
		ast.Xor:     {Bool, func(a, b int64) Value { return Truth(a != b) }},
		ast.And:     {Bool, func(a, b int64) Value { return Truth(a == 1 && b == 1) }},
		ast.Eq:      {either, func(a, b int64) Value { return Truth(a == b) }},
		ast.Ne:      {either, func(a, b int64) Value { return Truth(a != b) }},
		ast.Lt:      {Int, func(a, b int64) Value { return Truth(a < b) }},
		ast.Le:      {Int, func(a, b int64) Value { return Truth(a <= b) }},
		ast.Gt:      {Int, func(a, b int64) Value { return Truth(a > b) }},
		ast.Ge:      {Int, func(a, b int64) Value { return Truth(a >= b) }},
		ast.Add:     {Int, func(a, b int64) Value { return Of(a + b) }},
		ast.Sub:     {Int, func(a, b int64) Value { return Of(a - b) }},
		ast.Mul:     {Int, func(a, b int64) Value { return Of(a * b) }},
		ast.Div:     {Int, div},
		ast.Mod:     {Int, mod},
	}
}

func div(a, b int64) Value {
	if b == 0 {
		return Value{Kind: Err}
	}
	return Of(a / b)
}

func mod(a, b int64) Value {
	if b == 0 {
		return Value{Kind: Err}
	}
	return Of(a % b)
}

// made is what an op makes of a value; of what it does not ask for, err.
func (o unary) made(v Value) Value {
	switch v.Kind {
	case Nil:
		return Value{}
	case o.asks:
		return o.does(v.N)
	}
	return Value{Kind: Err}
}

// made is what an op makes of two values; of what it does not ask for, err.
func (o binary) made(a, b Value) Value {
	switch {
	case a.Kind == Err || b.Kind == Err:
		return Value{Kind: Err}
	case a.Kind == Nil || b.Kind == Nil:
		return Value{}
	case a.Kind != b.Kind || !o.takes(a.Kind):
		return Value{Kind: Err}
	}
	return o.does(a.N, b.N)
}

// takes: is a kind the one that an op asks?
func (o binary) takes(kind int) bool {
	if o.asks == either {
		return kind == Int || kind == Bool
	}
	return kind == o.asks
}

// Unary is what an op of one makes of a value; of an op that is none of
// these, err.
func Unary(op int, v Value) Value {
	all := unaries()
	if op < 0 || op >= len(all) {
		return Value{Kind: Err}
	}
	return all[op].made(v)
}

// Binary is what an op of two makes of two values; of an op that is none of
// these, err.
func Binary(op int, a, b Value) Value {
	all := binaries()
	if op <= ast.Arrow || op >= len(all) {
		return Value{Kind: Err}
	}
	return all[op].made(a, b)
}

// Choose is what an if makes of three values.
func Choose(c, a, b Value) Value {
	switch {
	case c == Truth(true):
		return a
	case c.Kind == Bool:
		return b
	case c.Kind == Nil:
		return Value{}
	}
	return Value{Kind: Err}
}
