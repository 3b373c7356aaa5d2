package print_test

import (
	"math"
	"slices"
	"strings"
	"testing"

	"shuttlecock/api"
	"shuttlecock/ast"
	"shuttlecock/parse"
	"shuttlecock/print"
)

// The calls have the signatures of the document.
var (
	_ func(ast.Program) (string, api.Errno) = print.Print
	_ func(ast.Expr) string                 = print.Expr
)

// num, truth, of, un, bin, choice and call make expressions that are right,
// if what they are given is.
func num(n int64) ast.Expr   { return ast.Expr{Kind: ast.Int, N: n} }
func truth(n int64) ast.Expr { return ast.Expr{Kind: ast.Bool, N: n} }
func of(s string) ast.Expr   { return ast.Expr{Kind: ast.Var, Name: s} }
func un(op int, kid ast.Expr) ast.Expr {
	return ast.Expr{Kind: ast.Un, Op: op, Kids: []ast.Expr{kid}}
}
func bin(op int, left, right ast.Expr) ast.Expr {
	return ast.Expr{Kind: ast.Bin, Op: op, Kids: []ast.Expr{left, right}}
}
func choice(whether, then, other ast.Expr) ast.Expr {
	return ast.Expr{Kind: ast.If, Kids: []ast.Expr{whether, then, other}}
}
func call(name string, kids ...ast.Expr) ast.Expr {
	return ast.Expr{Kind: ast.Call, Name: name, Kids: kids}
}

// with is a program of one equation.
func with(e ast.Expr) ast.Program {
	return ast.Program{Nodes: []ast.Node{{
		Name: "f",
		Outs: []ast.Variable{{Name: "y"}},
		Eqs:  []ast.Equation{{Lhs: []string{"y"}, Rhs: e}},
	}}}
}

// What stands around the expression of such a program.
const (
	head = "node f() returns (y: int);\nlet\n  y = "
	tail = ";\ntel\n"
)

// prints tells whether an expression has a text, by itself and in a program,
// and is parsed as it was.
func prints(t *testing.T, e ast.Expr, want string) {
	t.Helper()
	if got := print.Expr(e); got != want {
		t.Errorf("P6.1: %.300q, not %.300q", got, want)
	}
	s, errno := print.Print(with(e))
	if s != head+want+tail || errno != api.OK {
		t.Errorf("P6.1: %.300q, %d, not %.300q", s, errno, want)
	}
	if p, _, f := parse.Parse(s); f != api.OK || !p.Same(with(e)) {
		t.Errorf("P6.2: %.300q: not parsed as it was, %d", s, f)
	}
}

func TestExpr(t *testing.T) {
	a, b, c, one := of("a"), of("b"), of("c"), num(1)
	and := bin(ast.And, a, b)
	long := strings.Repeat("n", 60)
	for want, e := range map[string]ast.Expr{
		"0":                              num(0),
		"7":                              num(7),
		"1234567890":                     num(1234567890),
		"9223372036854775807":            num(math.MaxInt64),
		"true":                           truth(1),
		"false":                          truth(0),
		"a":                              a,
		"_":                              of("_"),
		long:                             of(long),
		"-1":                             un(ast.Neg, one),
		"- -1":                           un(ast.Neg, un(ast.Neg, one)),
		"- - -a":                         un(ast.Neg, un(ast.Neg, un(ast.Neg, a))),
		"-a":                             un(ast.Neg, a),
		"-true":                          un(ast.Neg, truth(1)),
		"-not a":                         un(ast.Neg, un(ast.Not, a)),
		"-pre -a":                        un(ast.Neg, un(ast.Pre, un(ast.Neg, a))),
		"-f()":                           un(ast.Neg, call("f")),
		"-(a and b)":                     un(ast.Neg, and),
		"-(-a - b)":                      un(ast.Neg, bin(ast.Sub, un(ast.Neg, a), b)),
		"-(- -a - -b)":                   un(ast.Neg, bin(ast.Sub, un(ast.Neg, un(ast.Neg, a)), un(ast.Neg, b))),
		"not a":                          un(ast.Not, a),
		"not -a":                         un(ast.Not, un(ast.Neg, a)),
		"not (a and b)":                  un(ast.Not, and),
		"pre pre a":                      un(ast.Pre, un(ast.Pre, a)),
		"pre (if a then b else c)":       un(ast.Pre, choice(a, b, c)),
		"pre f(a)":                       un(ast.Pre, call("f", a)),
		"a -> b":                         bin(ast.Arrow, a, b),
		"a -> b -> c":                    bin(ast.Arrow, a, bin(ast.Arrow, b, c)),
		"(a -> b) -> c":                  bin(ast.Arrow, bin(ast.Arrow, a, b), c),
		"a => b => c":                    bin(ast.Implies, a, bin(ast.Implies, b, c)),
		"(a => b) => c":                  bin(ast.Implies, bin(ast.Implies, a, b), c),
		"a => (b -> c)":                  bin(ast.Implies, a, bin(ast.Arrow, b, c)),
		"a -> b => c":                    bin(ast.Arrow, a, bin(ast.Implies, b, c)),
		"a - b - c":                      bin(ast.Sub, bin(ast.Sub, a, b), c),
		"a - (b - c)":                    bin(ast.Sub, a, bin(ast.Sub, b, c)),
		"a - (b + c)":                    bin(ast.Sub, a, bin(ast.Add, b, c)),
		"a + b * c":                      bin(ast.Add, a, bin(ast.Mul, b, c)),
		"(a + b) * c":                    bin(ast.Mul, bin(ast.Add, a, b), c),
		"(1 + 2) * 3 - 4":                bin(ast.Sub, bin(ast.Mul, bin(ast.Add, one, num(2)), num(3)), num(4)),
		"a div b mod c":                  bin(ast.Mod, bin(ast.Div, a, b), c),
		"a div (b mod c)":                bin(ast.Div, a, bin(ast.Mod, b, c)),
		"a - -b":                         bin(ast.Sub, a, un(ast.Neg, b)),
		"-a - b":                         bin(ast.Sub, un(ast.Neg, a), b),
		"a = (b = c)":                    bin(ast.Eq, a, bin(ast.Eq, b, c)),
		"(a = b) = c":                    bin(ast.Eq, bin(ast.Eq, a, b), c),
		"(a < b) <> (b >= c)":            bin(ast.Ne, bin(ast.Lt, a, b), bin(ast.Ge, b, c)),
		"a and b or c":                   bin(ast.Or, and, c),
		"(a or b) and c":                 bin(ast.And, bin(ast.Or, a, b), c),
		"a xor (b or c)":                 bin(ast.Xor, a, bin(ast.Or, b, c)),
		"a xor b or c":                   bin(ast.Or, bin(ast.Xor, a, b), c),
		"if a then b else c":             choice(a, b, c),
		"if a -> b then b => c else -c":  choice(bin(ast.Arrow, a, b), bin(ast.Implies, b, c), un(ast.Neg, c)),
		"a + (if a then b else c)":       bin(ast.Add, a, choice(a, b, c)),
		"(if a then b else c) -> a":      bin(ast.Arrow, choice(a, b, c), a),
		"a -> (if a then b else c)":      bin(ast.Arrow, a, choice(a, b, c)),
		"f()":                            call("f"),
		"f(a)":                           call("f", a),
		"f(a, b -> c, true)":             call("f", a, bin(ast.Arrow, b, c), truth(1)),
		"f(if a then b else c, g(), -1)": call("f", choice(a, b, c), call("g"), un(ast.Neg, one)),
		"if if a then b else c then if a then b else c else if a then b else c": choice(choice(a, b, c), choice(a, b, c), choice(a, b, c)),
	} {
		prints(t, e, want)
	}
}

func TestOps(t *testing.T) {
	for op, s := range strings.Fields("-> => or xor and = <> < <= > >= + - * div mod") {
		prints(t, bin(op, of("a"), num(1)), "a "+s+" 1")
	}
	for op, s := range []string{"-", "not ", "pre "} {
		prints(t, un(op, of("a")), s+"a")
	}
}

func TestPrint(t *testing.T) {
	a, b := ast.Variable{Name: "a"}, ast.Variable{Name: "b", Type: 1}
	is := func(e ast.Expr, left ...string) ast.Equation { return ast.Equation{Lhs: left, Rhs: e} }
	for want, p := range map[string]ast.Program{
		"":                                       {},
		"node f() returns (a: int);\nlet\ntel\n": {Nodes: []ast.Node{{Name: "f", Outs: []ast.Variable{a}}}},
		"node f(a: int) returns (b: bool);\nlet\ntel\n":           {Nodes: []ast.Node{{Name: "f", Ins: []ast.Variable{a}, Outs: []ast.Variable{b}}}},
		"node f() returns (a: int);\nvar b: bool;\nlet\ntel\n":    {Nodes: []ast.Node{{Name: "f", Outs: []ast.Variable{a}, Locals: []ast.Variable{b}}}},
		"node f() returns (a: int);\nlet\n  a = 1;\ntel\n":        {Nodes: []ast.Node{{Name: "f", Outs: []ast.Variable{a}, Eqs: []ast.Equation{is(num(1), "a")}}}},
		"node f() returns (a: int);\nlet\n  (a, b) = g();\ntel\n": {Nodes: []ast.Node{{Name: "f", Outs: []ast.Variable{a}, Eqs: []ast.Equation{is(call("g"), "a", "b")}}}},
		"node f(a: int; b: bool; a: int) returns (b: bool; a: int; b: bool);\nvar b: bool; b: bool; a: int;\nlet\n  a = -1;\n  (a, a, b) = a -> b;\n  b = if a then b else true;\ntel\n" +
			"node f() returns (a: int);\nlet\ntel\nnode g() returns (b: bool);\nlet\n  b = 0;\ntel\n": {Nodes: []ast.Node{
			{Name: "f", Ins: []ast.Variable{a, b, a}, Outs: []ast.Variable{b, a, b}, Locals: []ast.Variable{b, b, a}, Eqs: []ast.Equation{
				is(un(ast.Neg, num(1)), "a"), is(bin(ast.Arrow, of("a"), of("b")), "a", "a", "b"), is(choice(of("a"), of("b"), truth(1)), "b"),
			}},
			{Name: "f", Outs: []ast.Variable{a}},
			{Name: "g", Outs: []ast.Variable{b}, Eqs: []ast.Equation{is(num(0), "b")}},
		}},
	} {
		s, e := print.Print(p)
		if s != want || e != api.OK {
			t.Errorf("P6.1: %q, %d, not %q", s, e, want)
		}
		if q, _, f := parse.Parse(s); f != api.OK || !q.Same(p) {
			t.Errorf("P6.2: %q: not parsed as it was, %d", s, f)
		}
	}
}

// wrongs are expressions that are not right.
func wrongs() map[string]ast.Expr {
	a := of("a")
	deep := a
	for range 200 {
		deep = un(ast.Neg, deep)
	}
	return map[string]ast.Expr{
		"a kind below all": {Kind: -1}, "a kind above all": {Kind: 7}, "an int below 0": num(-1), "a bool of 2": truth(2), "a name that is none": of("1"),
		"a word": of("if"), "an empty name": of(""), "a long name": of(strings.Repeat("n", 61)), "an op below all": un(-1, a), "an op above all": un(3, a),
		"an op of two above all": bin(16, a, a), "an op of two below all": bin(-1, a, a), "an op of two of one": {Kind: ast.Bin, Kids: []ast.Expr{a}},
		"an op of one of none": {Kind: ast.Un}, "an if of two": {Kind: ast.If, Kids: []ast.Expr{a, a}}, "a call of a word": call("pre"), "one that is 201 deep": deep,
		"a call of 1001": call("f", slices.Repeat([]ast.Expr{a}, 1001)...), "a variable with a number": {Kind: ast.Var, Name: "a", N: 1}, "an int with a Kid": {Kids: []ast.Expr{a}},
	}
}

func TestNotRight(t *testing.T) {
	for what, e := range wrongs() {
		for where, x := range map[string]ast.Expr{"alone": e, "below": bin(ast.Add, num(1), e), "in a call": call("f", e, num(1)), "in an if": choice(of("a"), e, e), "behind -": un(ast.Neg, e)} {
			if s := print.Expr(x); s != "" {
				t.Errorf("P6.1: %s, %s: %.100q", what, where, s)
			}
			if s, errno := print.Print(with(x)); s != "" || errno != api.ErrArg {
				t.Errorf("P6.1: a program with %s, %s: %.100q, %d", what, where, s, errno)
			}
		}
	}
	many := slices.Repeat([]ast.Variable{{Name: "a"}}, 1001)
	for what, change := range map[string]func(n *ast.Node){
		"no name": func(n *ast.Node) { n.Name = "" }, "a word": func(n *ast.Node) { n.Name = "let" }, "no Outs": func(n *ast.Node) { n.Outs = nil },
		"an In of the Type 2": func(n *ast.Node) { n.Ins = []ast.Variable{{Name: "a", Type: 2}} }, "an Out of the Type -1": func(n *ast.Node) { n.Outs[0].Type = -1 },
		"a Local that is a word": func(n *ast.Node) { n.Locals = []ast.Variable{{Name: "int"}} }, "no names on the left": func(n *ast.Node) { n.Eqs[0].Lhs = nil },
		"a name on the left": func(n *ast.Node) { n.Eqs[0].Lhs = []string{"a", "b c"} }, "an empty equation": func(n *ast.Node) { n.Eqs = append(n.Eqs, ast.Equation{}) },
		"1001 Ins": func(n *ast.Node) { n.Ins = many }, "1001 Outs": func(n *ast.Node) { n.Outs = many }, "1001 Locals": func(n *ast.Node) { n.Locals = many },
		"1001 equations":         func(n *ast.Node) { n.Eqs = slices.Repeat(n.Eqs, 1001) },
		"1001 names on the left": func(n *ast.Node) { n.Eqs[0].Lhs = slices.Repeat([]string{"a"}, 1001) },
	} {
		for i := range 3 {
			p := ast.Program{Nodes: slices.Concat(with(num(1)).Nodes, with(num(2)).Nodes, with(num(3)).Nodes)}
			change(&p.Nodes[i])
			if s, e := print.Print(p); s != "" || e != api.ErrArg {
				t.Errorf("P6.1: %s: %.100q, %d", what, s, e)
			}
		}
	}
	if s, e := print.Print(ast.Program{Nodes: slices.Repeat(with(num(1)).Nodes, 1001)}); s != "" || e != api.ErrArg {
		t.Errorf("P6.1: 1001 nodes: %.100q, %d", s, e)
	}
}
