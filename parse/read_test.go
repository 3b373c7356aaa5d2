package parse_test

import (
	"slices"
	"strconv"
	"strings"

	"shuttlecock/ast"
)

// The readings below take what is known to go on by the rules, and part it,
// the loosest first.

// part parts tokens at those that are told, but for those within brackets.
func part(tokens []string, at func(i int) bool) [][]string {
	var all [][]string
	depth, from := 0, 0
	for i, x := range tokens {
		switch {
		case x == "(":
			depth++
		case x == ")":
			depth--
		case depth == 0 && at(i):
			all = append(all, tokens[from:i])
			from = i + 1
		}
	}
	return append(all, tokens[from:])
}

// parted parts tokens at each of a sort.
func parted(tokens []string, sort string) [][]string {
	return part(tokens, func(i int) bool { return tokens[i] == sort })
}

// until are the tokens ahead of the first of a sort, and those behind it.
func until(tokens []string, sort string) ([]string, []string) {
	i := slices.Index(tokens, sort)
	return tokens[:i], tokens[i+1:]
}

func readProgram(tokens []string) ast.Program {
	var p ast.Program
	for len(tokens) > 0 {
		var n []string
		n, tokens = until(tokens, "tel")
		p.Nodes = append(p.Nodes, readNode(n))
	}
	return p
}

func readNode(tokens []string) ast.Node {
	header, body := until(tokens, "let")
	n := ast.Node{Name: header[1]}
	ins, rest := until(header[3:], ")")
	outs, rest := until(rest[2:], ")")
	n.Ins, n.Outs = readVariables(ins), readVariables(outs)
	if len(rest) > 1 {
		n.Locals = readVariables(rest[2 : len(rest)-1])
	}
	for _, q := range parted(body, ";") {
		if len(q) > 0 {
			left, right := until(q, "=")
			n.Eqs = append(n.Eqs, ast.Equation{Lhs: readNames(left), Rhs: readExpr(right)})
		}
	}
	return n
}

func readVariables(tokens []string) []ast.Variable {
	var all []ast.Variable
	for _, group := range parted(tokens, ";") {
		if len(group) == 0 {
			continue
		}
		names, of := until(group, ":")
		for _, name := range readNames(names) {
			all = append(all, ast.Variable{Name: name, Type: slices.Index([]string{"int", "bool"}, of[0])})
		}
	}
	return all
}

func readNames(tokens []string) []string {
	return slices.DeleteFunc(slices.Clone(tokens), func(s string) bool { return s == "(" || s == "," || s == ")" })
}

// looser are the ops of two by their levels: `->` and `=>` are parted at the
// first of them, all others at the last.
var looser = []string{"->", "=>", "or xor", "and", "= <> < <= > >=", "+ -", "* div mod"}

func readExpr(tokens []string) ast.Expr {
	if tokens[0] == "if" {
		return readIf(tokens[1:])
	}
	for level, some := range looser {
		where := joints(tokens, strings.Fields(some))
		if len(where) == 0 {
			continue
		}
		i := where[len(where)-1]
		if level < 2 {
			i = where[0]
		}
		op := slices.Index(ops[ast.Bin], tokens[i])
		return ast.Expr{Kind: ast.Bin, Op: op, Kids: []ast.Expr{readExpr(tokens[:i]), readExpr(tokens[i+1:])}}
	}
	if op := slices.Index(ops[ast.Un], tokens[0]); op >= 0 {
		return ast.Expr{Kind: ast.Un, Op: op, Kids: []ast.Expr{readExpr(tokens[1:])}}
	}
	return readAtom(tokens)
}

// joints are where some ops of two stand, but for those within brackets. What
// stands behind an operand's end is one of two.
func joints(tokens []string, some []string) []int {
	var all []int
	part(tokens, func(i int) bool {
		none := append([]string{"(", "->", "=>", "or", "xor", "and", "=", "<>", "<", "<=", ">", ">=", "+", "-", "*", "div", "mod"}, ops[ast.Un]...)
		if i > 0 && slices.Contains(some, tokens[i]) && !slices.Contains(none, tokens[i-1]) {
			all = append(all, i)
		}
		return false
	})
	return all
}

// readIf is an if by what stands behind it: its own then is the first by
// which no other if lacks one, and likewise its else.
func readIf(tokens []string) ast.Expr {
	e := ast.Expr{Kind: ast.If}
	for _, word := range []string{"then", "else"} {
		lack := 0
		for i, x := range tokens {
			if x == "if" {
				lack++
			}
			if x != word {
				continue
			}
			if lack == 0 {
				e.Kids = append(e.Kids, readExpr(tokens[:i]))
				tokens = tokens[i+1:]
				break
			}
			lack--
		}
	}
	e.Kids = append(e.Kids, readExpr(tokens))
	return e
}

func readAtom(tokens []string) ast.Expr {
	last := len(tokens) - 1
	switch x := tokens[0]; {
	case x == "(":
		return readExpr(tokens[1:last])
	case x == "true":
		return ast.Expr{Kind: ast.Bool, N: 1}
	case x == "false":
		return ast.Expr{Kind: ast.Bool}
	case x[0] <= '9':
		n, _ := strconv.ParseInt(x, 10, 64)
		return ast.Expr{Kind: ast.Int, N: n}
	case last == 0:
		return ast.Expr{Kind: ast.Var, Name: x}
	}
	e := ast.Expr{Kind: ast.Call, Name: tokens[0]}
	for _, kid := range parted(tokens[2:last], ",") {
		if len(kid) > 0 {
			e.Kids = append(e.Kids, readExpr(kid))
		}
	}
	return e
}
