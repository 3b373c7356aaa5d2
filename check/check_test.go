package check_test

import (
	"strings"
	"testing"

	"shuttlecock/api"
	"shuttlecock/ast"
	"shuttlecock/check"
	"shuttlecock/parse"
)

// The calls have the signatures of the document.
var (
	_ func(ast.Program) (*check.Types, api.Errno) = check.Check
	_ func(ast.Program) (int, api.Errno)          = check.Where
	_ interface {
		Of(node int, name string) (int, bool)
		Find(name string) (int, bool)
		Results(node int, e ast.Expr) ([]int, api.Errno)
		Order() []int
	} = new(check.Types)
)

// program is that of a text.
func program(t *testing.T, text string) ast.Program {
	t.Helper()
	p, at, e := parse.Parse(text)
	if e != api.OK {
		t.Fatalf("%.300s: %d at %d:%d", text, e, at.Line, at.Column)
	}
	return p
}

// expr is the expression of a text.
func expr(t *testing.T, text string) ast.Expr {
	t.Helper()
	return program(t, "node f() returns (y: int); let y = "+text+"; tel").Nodes[0].Eqs[0].Rhs
}

// answers tells whether of a program that error is answered, and that node; of
// a program that is sound, and of one that is not right, the node is -1.
func answers(t *testing.T, what string, p ast.Program, node int, want api.Errno) {
	t.Helper()
	if x, e := check.Check(p); e != want || (x == nil) != (want != api.OK) {
		t.Errorf("P7.1: %.300s: Check answers %v, %d, not %d", what, x, e, want)
	}
	if i, e := check.Where(p); i != node || e != want {
		t.Errorf("P7.1: %.300s: Where answers %d, %d, not %d, %d", what, i, e, node, want)
	}
}

// asked is a text, the node that is not sound first, and its error.
type asked struct {
	text string
	node int
	e    api.Errno
}

func (a asked) holds(t *testing.T, ahead string) {
	t.Helper()
	answers(t, a.text, program(t, ahead+a.text), a.node, a.e)
}

// fine is a node that is, of any name.
func fine(name string) string {
	return "node " + name + "(a: int) returns (b: int); let b = a; tel "
}

func TestNodes(t *testing.T) {
	for _, a := range []asked{
		{"", -1, api.OK},
		{fine("f"), -1, api.OK},
		{fine("f") + fine("g"), -1, api.OK},
		{"node f() returns (b: bool); let b = true; tel", -1, api.OK},
		{"node f(a, b: int; c: bool) returns (d: bool; e: int); var g: int; let e = g; d = c; g = a; tel", -1, api.OK},
		{"node f(f: int) returns (g: int); let g = f; tel " + fine("g"), -1, api.OK},
		{fine("f") + fine("f"), 1, api.ErrName},
		{fine("f") + fine("g") + fine("f"), 2, api.ErrName},
		{fine("f") + fine("g") + fine("h") + fine("g") + fine("f"), 3, api.ErrName},
		{fine("f") + fine("F"), -1, api.OK},
		{"node f(a, a: int) returns (b: int); let b = a; tel", 0, api.ErrName},
		{"node f(a: int; a: bool) returns (b: int); let b = a; tel", 0, api.ErrName},
		{"node f(a: int) returns (a: int); let tel", 0, api.ErrName},
		{"node f(a: int) returns (b: int); var a: int; let b = a; tel", 0, api.ErrName},
		{"node f() returns (b, b: int); let b = 1; tel", 0, api.ErrName},
		{"node f() returns (b: int); var b: int; let b = 1; tel", 0, api.ErrName},
		{"node f() returns (b: int); var c, d: int; c: bool; let b = 1; c = 1; d = 1; tel", 0, api.ErrName},
		{fine("g") + "node f(a, b, c: int) returns (d: int); var e, c: int; let d = 1; e = 1; tel", 1, api.ErrName},
	} {
		a.holds(t, "")
	}
}

func TestEquations(t *testing.T) {
	// With d: what stands between `let` and `tel`.
	ahead := fine("one") + "node two(a: int) returns (b: int; c: bool); let b = a; c = true; tel " +
		"node f(i: int; c: bool) returns (o: int; q: bool); var l: int; let "
	all := "o = 1; q = c; l = 2; "
	for _, a := range []asked{
		{all, -1, api.OK},
		{"l = i; q = l = o; o = l; ", -1, api.OK},
		{"(o, q) = two(1); (l) = one(2); ", -1, api.OK},
		{"(l, q) = two(o); o = i; ", -1, api.OK},

		// Names on the left.
		{all + "x = 1; ", 2, api.ErrName},
		{"x = 1; " + all, 2, api.ErrName},
		{"(o, x) = two(1); q = c; l = 2; ", 2, api.ErrName},
		{"f = 1; " + all, 2, api.ErrName},
		{"i = 1; " + all, 2, api.ErrDefine},
		{all + "c = true; ", 2, api.ErrDefine},
		{"(o, c) = two(1); q = c; l = 2; ", 2, api.ErrDefine},
		{"o = 1; q = c; o = 1; l = 2; ", 2, api.ErrDefine},
		{all + "l = 3; ", 2, api.ErrDefine},
		{"q = true; (o, q) = two(1); l = 2; ", 2, api.ErrDefine},
		{"(o, o) = two(1); q = c; l = 2; ", 2, api.ErrDefine},
		{"(o, q, o) = two(1); l = 2; ", 2, api.ErrDefine},
		{"(i, x) = two(1); " + all, 2, api.ErrDefine},
		{"(x, i) = two(1); " + all, 2, api.ErrName},
		{"(o, o, x) = two(1); ", 2, api.ErrDefine},
		{"(o, x, o) = two(1); ", 2, api.ErrName},

		// Names on the left ahead of the expression, and this ahead of how many there are.
		{"x = 1 + true; " + all, 2, api.ErrName},
		{"i = x; " + all, 2, api.ErrDefine},
		{"i = 1 + true; " + all, 2, api.ErrDefine},
		{"x = one(); " + all, 2, api.ErrName},
		{"(l, x) = 1; " + all, 2, api.ErrName},
		{"(l, i) = 1; " + all, 2, api.ErrDefine},
		{"(o, q) = x; ", 2, api.ErrName},
		{"(o, q) = 1 + true; ", 2, api.ErrType},
		{"(o, q) = -two(1); ", 2, api.ErrArity},

		// How many results, and then of which types.
		{"(o, q) = i; l = 2; ", 2, api.ErrArity},
		{"(q, o) = i; l = 2; ", 2, api.ErrArity},
		{"(o, q) = one(1); l = 2; ", 2, api.ErrArity},
		{"(o, q, l) = two(1); ", 2, api.ErrArity},
		{"(q, o, l) = two(1); ", 2, api.ErrArity},
		{"o = two(1); q = c; l = 2; ", 2, api.ErrArity},
		{"q = two(1); o = i; l = 2; ", 2, api.ErrArity},
		{"o = c; q = c; l = 2; ", 2, api.ErrType},
		{"o = i; q = i; l = 2; ", 2, api.ErrType},
		{"o = i; q = c; l = true; ", 2, api.ErrType},
		{"(q, o) = two(1); l = 2; ", 2, api.ErrType},
		{"(o, l) = two(1); q = c; ", 2, api.ErrType},
		{"q = one(1); o = 1; l = 2; ", 2, api.ErrType},

		// What is not defined.
		{"", 2, api.ErrDefine},
		{"q = c; l = 2; ", 2, api.ErrDefine},
		{"o = 1; l = 2; ", 2, api.ErrDefine},
		{"o = 1; q = c; ", 2, api.ErrDefine},
		{"(o, q) = two(1); ", 2, api.ErrDefine},
		{"o = l; q = c; ", 2, api.ErrDefine},

		// The first equation that is wrong, ahead of what is not defined.
		{"o = true; x = 1; ", 2, api.ErrType},
		{"x = 1; o = true; ", 2, api.ErrName},
		{"o = 1; i = 2; q = 3; ", 2, api.ErrDefine},
		{"o = 1; q = 3; i = 2; ", 2, api.ErrType},
		{"o = two(1); l = c; ", 2, api.ErrArity},
	} {
		a.text += "tel"
		a.holds(t, ahead)
		if a.e == api.OK {
			a.node, a.e = 3, api.ErrName
		}
		a.text += " node f(i: bool) returns (x: int); let x = nope(); tel"
		a.holds(t, ahead)
	}
}

func TestEquationsBehindAnother(t *testing.T) {
	// Each list of names on the left is one node's own.
	for _, a := range []asked{
		{fine("f") + "node g(b: int) returns (a: int); let a = b; tel", -1, api.OK},
		{fine("f") + "node g() returns (c: int); let c = a; tel", 1, api.ErrName},
		{fine("f") + "node g() returns (c: int); let c = b; tel", 1, api.ErrName},
		{fine("f") + "node g() returns (b: int); let tel", 1, api.ErrDefine},
		{fine("f") + "node g() returns (c: int); let c = 1; b = 2; tel", 1, api.ErrName},
	} {
		a.holds(t, "")
	}
}

func TestTheFirstNodeCounts(t *testing.T) {
	wrongs := []asked{
		{"node x(a, a: int) returns (b: int); let tel ", 0, api.ErrName},
		{"node x() returns (b: int); let tel ", 0, api.ErrDefine},
		{"node x() returns (b: int); let b = true; tel ", 0, api.ErrType},
		{"node x() returns (b: int); let b = nope(); tel ", 0, api.ErrName},
		{"node x() returns (b: int); let b = x(1); tel ", 0, api.ErrArity},
	}
	for _, first := range wrongs {
		for _, other := range wrongs {
			second := strings.Replace(strings.Replace(other.text, " x(", " y(", 1), "= x(", "= y(", 1)
			asked{first.text + second, 0, first.e}.holds(t, "")
			asked{fine("f") + first.text + fine("g") + second, 1, first.e}.holds(t, "")
			asked{first.text + other.text, 0, first.e}.holds(t, "")
			asked{fine("x") + first.text, 1, api.ErrName}.holds(t, "")
		}
	}
}

func TestCircles(t *testing.T) {
	calls := func(name string, others ...string) string {
		s := "node " + name + "(a: int) returns (b: int); let b = a"
		for _, other := range others {
			s += " + " + other + "(a)"
		}
		return s + "; tel "
	}
	for _, a := range []asked{
		{calls("f", "g") + calls("g"), -1, api.OK},
		{calls("f", "g", "h", "g") + calls("g", "h") + calls("h"), -1, api.OK},
		{calls("f", "f"), 0, api.ErrCycle},
		{calls("f", "g") + calls("g", "g"), 1, api.ErrCycle},
		{calls("f", "g") + calls("g", "f"), 0, api.ErrCycle},
		{calls("f", "g") + calls("g", "h") + calls("h", "g"), 1, api.ErrCycle},
		{calls("f", "g") + calls("g", "h") + calls("h", "f"), 0, api.ErrCycle},
		{calls("f") + calls("g", "h", "f") + calls("h", "f", "i") + calls("i", "f", "h"), 2, api.ErrCycle},
		{calls("f", "g", "h") + calls("g") + calls("h", "g", "h"), 2, api.ErrCycle},
		{calls("f", "i") + calls("g", "h") + calls("h", "g") + calls("i", "i"), 1, api.ErrCycle},
		{calls("f", "i") + calls("g", "i") + calls("h", "h") + calls("i", "g"), 1, api.ErrCycle},

		// At last: whatever else is wrong counts, also further on.
		{calls("f", "f") + "node g() returns (b: int); let tel", 1, api.ErrDefine},
		{calls("f", "g") + calls("g", "f") + "node h() returns (b: int); let b = x; tel", 2, api.ErrName},
		{calls("f", "f") + calls("f", "f"), 1, api.ErrName},

		// A call counts wherever it stands, whatever it is given, whatever comes of it.
		{"node f() returns (b: int); let b = pre f(); tel", 0, api.ErrCycle},
		{"node f() returns (b: int); let b = 0 -> pre (1 + f()); tel", 0, api.ErrCycle},
		{"node f(a: int) returns (b: int); let b = if true then 1 else f(f(1)); tel", 0, api.ErrCycle},
		{"node f(a: int) returns (b: int); let b = g(f(1)); tel " + calls("g"), 0, api.ErrCycle},
		{"node f() returns (b, c: int); var d, e: int; let b = 1; c = 2; (d, e) = f(); tel", 0, api.ErrCycle},

		// What hangs on itself is another layer's.
		{"node f() returns (b: int); let b = b; tel", -1, api.OK},
	} {
		a.holds(t, "")
	}
}

func TestNotRight(t *testing.T) {
	deep := expr(t, "1")
	for range 200 {
		deep = ast.Expr{Kind: ast.Un, Kids: []ast.Expr{deep}}
	}
	for what, change := range map[string]func(n *ast.Node){
		"a name that is none":  func(n *ast.Node) { n.Name = "tel" },
		"no Outs":              func(n *ast.Node) { n.Outs = nil },
		"a Type that is none":  func(n *ast.Node) { n.Ins[0].Type = 2 },
		"a Type below 0":       func(n *ast.Node) { n.Outs[0].Type = -1 },
		"no names on the left": func(n *ast.Node) { n.Eqs[0].Lhs = nil },
		"a left that is none":  func(n *ast.Node) { n.Eqs[0].Lhs[0] = "" },
		"a kind that is none":  func(n *ast.Node) { n.Eqs[0].Rhs = ast.Expr{Kind: 7} },
		"a kind below 0":       func(n *ast.Node) { n.Eqs[0].Rhs = ast.Expr{Kind: -1} },
		"an op that is none":   func(n *ast.Node) { n.Eqs[0].Rhs = ast.Expr{Kind: ast.Un, Op: 3, Kids: n.Eqs[0].Rhs.Kids} },
		"an op of two of none": func(n *ast.Node) { n.Eqs[0].Rhs = ast.Expr{Kind: ast.Bin} },
		"an op of one of none": func(n *ast.Node) { n.Eqs[0].Rhs = ast.Expr{Kind: ast.Un} },
		"an if of none":        func(n *ast.Node) { n.Eqs[0].Rhs = ast.Expr{Kind: ast.If} },
		"an int below 0":       func(n *ast.Node) { n.Eqs[0].Rhs = ast.Expr{N: -1} },
		"201 deep":             func(n *ast.Node) { n.Eqs[0].Rhs = deep },
		"1001 equations":       func(n *ast.Node) { n.Eqs = make([]ast.Equation, 1001) },
	} {
		// Also behind nodes that are not sound.
		for i := range 4 {
			p := program(t, fine("f")+"node g(a, a: int) returns (b: int); let x = 1 + true; tel "+fine("f")+"node g(a: int) returns (b: int); let b = g(2); tel")
			answers(t, what, p, 1, api.ErrName)
			change(&p.Nodes[i])
			answers(t, what, p, -1, api.ErrArg)
		}
	}
}
