package parse_test

import (
	"strconv"
	"strings"
	"testing"

	"shuttlecock/api"
	"shuttlecock/ast"
	"shuttlecock/lex"
	"shuttlecock/parse"
)

// The call has the signature of the document.
var _ func(string) (ast.Program, lex.Place, api.Errno) = parse.Parse

// What an equation's expression is put between, in a program of one line.
const (
	head = "node f() returns (y: int); let y = "
	tail = "; tel"
)

// ops are the words and signs of the ops, by their numbers.
var ops = map[int][]string{
	ast.Un:  strings.Fields("- not pre"),
	ast.Bin: strings.Fields("-> => or xor and = <> < <= > >= + - * div mod"),
}

// at is a place.
func at(line, column int) lex.Place {
	return lex.Place{Line: line, Column: column}
}

// placeOf is the place of the byte i of s.
func placeOf(s string, i int) lex.Place {
	return at(1+strings.Count(s[:i], "\n"), i-strings.LastIndexByte(s[:i], '\n'))
}

// told tells an expression with brackets of its own for each op, if and call:
// an if as `?`, a call with `!`.
func told(e ast.Expr) string {
	s := "wrong"
	switch e.Kind {
	case ast.Int:
		s = strconv.FormatInt(e.N, 10)
	case ast.Bool:
		s = map[int64]string{0: "false", 1: "true"}[e.N]
	case ast.Var:
		s = e.Name
	case ast.Un, ast.Bin:
		s = "(" + ops[e.Kind][e.Op]
	case ast.If:
		s = "(?"
	case ast.Call:
		s = "(!" + e.Name
	}
	for _, kid := range e.Kids {
		s += " " + told(kid)
	}
	if s[0] == '(' {
		s += ")"
	}
	return s
}

// goes is the program of a text, which has to be one.
func goes(t *testing.T, s string) ast.Program {
	t.Helper()
	p, place, e := parse.Parse(s)
	if e != api.OK || place != (lex.Place{}) {
		t.Errorf("P5.1: %.200q: %v, %d", s, place, e)
	}
	if !p.Right() {
		t.Errorf("P5.2: %.200q: a program that is not right", s)
	}
	return p
}

// means tells whether an expression is the one that is told.
func means(t *testing.T, s, want string) {
	t.Helper()
	p := goes(t, head+s+tail)
	if len(p.Nodes) != 1 || len(p.Nodes[0].Eqs) != 1 {
		t.Errorf("P5.1: %q: another node, or another equation", s)
		return
	}
	if got := told(p.Nodes[0].Eqs[0].Rhs); got != want {
		t.Errorf("P5.1: %q: %s, not %s", s, got, want)
	}
}

// fails tells whether of a text there is nothing but a place and an error.
func fails(t *testing.T, s string, want lex.Place, err api.Errno) {
	t.Helper()
	if p, place, e := parse.Parse(s); len(p.Nodes) != 0 || place != want || e != err {
		t.Errorf("P5.1: %.200q: %d nodes, %v, %d, not %v, %d", s, len(p.Nodes), place, e, want, err)
	}
}

// failsAt tells whether a text goes wrong at the byte behind ahead.
func failsAt(t *testing.T, ahead, rest string, err api.Errno) {
	t.Helper()
	fails(t, ahead+rest, placeOf(ahead+rest, len(ahead)), err)
}
