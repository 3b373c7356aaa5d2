package cause_test

import (
	"slices"
	"strconv"
	"strings"
	"testing"

	"shuttlecock/api"
	"shuttlecock/ast"
	"shuttlecock/cause"
	"shuttlecock/check"
	"shuttlecock/parse"
)

// The calls have the signatures of the document.
var (
	_ func(ast.Expr) []string                     = cause.Uses
	_ func(ast.Node) ([]int, api.Errno)           = cause.Order
	_ func(ast.Program) (*check.Types, api.Errno) = cause.Check
	_ func(ast.Program) (int, int)                = cause.Where
)

// program is that of a text.
func program(t *testing.T, text string) ast.Program {
	t.Helper()
	p, at, e := parse.Parse(text)
	if e != api.OK {
		t.Fatalf("%.300s: %d at %d:%d", text, e, at.Line, at.Column)
	}
	return p
}

// node is a node with these equations.
func node(t *testing.T, equations string) ast.Node {
	t.Helper()
	return program(t, "node f(i, j: int) returns (y: int); let "+equations+" tel").Nodes[0]
}

func TestUses(t *testing.T) {
	for s, want := range map[string]string{
		"1": "", "true": "", "a": "a", "a + a": "a", "a + b": "a b", "b + a": "b a", "a + b * a - c": "a b c",
		"-a": "a", "not a": "a", "- - a": "a", "pre a": "", "pre pre a": "", "pre (a + b)": "", "-pre a": "", "pre -a": "", "not pre (a and b)": "",
		"a + pre b": "a", "pre b + a": "a", "b + pre b": "b", "pre b + b": "b", "pre a -> b": "b", "a -> pre b": "a", "a -> b": "a b", "pre (a -> b) -> c": "c",
		"if a then b else c": "a b c", "if c then b else a": "c b a", "if pre a then b else c": "b c", "if a then pre b else c": "a c", "if a then b else pre c": "a b",
		"if b then b else a": "b a", "f()": "", "f(a)": "a", "f(b, a, b)": "b a", "f(pre a, b)": "b", "pre f(a, b)": "", "f(g(h(a)), b)": "a b", "f(f)": "f", "f(pre g(a) + b)": "b",
		"a + (b + (c + (pre d + (e + a))))": "a b c e", "((((a -> pre b) -> c) -> d) -> a) -> b": "a c d b",
	} {
		if got := cause.Uses(node(t, "y = "+s+";").Eqs[0].Rhs); strings.Join(got, " ") != want {
			t.Errorf("P8.1: %s: %v, not %s", s, got, want)
		}
	}
	ops := strings.Fields("-> => or xor and = <> < <= > >= + - * div mod")
	for _, op := range ops {
		for _, s := range []string{"b " + op + " a", "b " + op + " (a " + op + " b)", "b " + op + " (a " + op + " pre c)"} {
			if got := cause.Uses(node(t, "y = "+s+";").Eqs[0].Rhs); !slices.Equal(got, []string{"b", "a"}) {
				t.Errorf("P8.1: %s: %v", s, got)
			}
		}
	}
}

// digits are numbers below 10, as words.
func digits(l []int) string {
	var all []string
	for _, i := range l {
		all = append(all, strconv.Itoa(i))
	}
	return strings.Join(all, " ")
}

func TestOrder(t *testing.T) {
	for s, want := range map[string]string{
		"": "", "y = 1;": "0", "y = i;": "0", "y = x;": "0", "y = pre y;": "0", "y = 1 -> pre y + i;": "0",
		"a = 1; b = 2; c = 3;": "0 1 2", "a = b; b = 2;": "1 0", "a = b; b = c; c = 1;": "2 1 0", "a = pre b; b = a;": "0 1", "a = pre b; b = pre a;": "0 1",
		"a = c; b = 1; c = 2;": "1 2 0", "a = b; b = 1; c = 2;": "1 0 2", "a = d; b = 1; c = a; d = 2;": "1 3 0 2", "a = c; b = c; c = 1;": "2 0 1",
		"a = b + c; b = c; c = 1; d = 4;": "2 1 0 3", "a = b + b; b = 1 + b2; b2 = 2;": "2 1 0", "a = d + pre a; b = a + pre c; c = b + d; d = 1 -> pre c;": "3 0 1 2",

		// Several names on the left.
		"(a, b) = f(c); c = 1;": "1 0", "c = a; (a, b) = f(1);": "1 0", "c = b; (a, b) = f(1);": "1 0", "c = a + b; (a, b) = f(d); d = 1;": "2 1 0",

		// What a call is given counts, and what it is called does not.
		"a = f(b); b = 1;": "1 0", "a = f(pre b); b = 1;": "0 1", "f = f(); y = f;": "0 1",

		// A name on several lefts is that of the first one.
		"a = 1; a = a;": "0 1", "b = a; a = 1; a = b;": "1 0 2", "b = a; c = 1; a = c; a = b;": "1 2 0 3", "(a, a) = f(); y = a;": "0 1", "a = 1; (b, a) = f(a); c = b;": "0 1 2",
		"a = b; (a, b) = f();": "1 0", "a = 1; b = a; a = c; c = b;": "0 1 3 2",

		// Whether it is sound does not count.
		"i = 1; y = i;": "0 1", "y = i; i = 1;": "1 0", "x = 1 + true; y = x;": "0 1",
	} {
		if got, e := cause.Order(node(t, s)); e != api.OK || digits(got) != want {
			t.Errorf("P8.2: %s: %v, %d, not %s", s, got, e, want)
		}
	}
}

func TestNoOrder(t *testing.T) {
	for _, s := range []string{
		"y = y;", "y = y + 1;", "y = 1 + y;", "y = y + pre y;", "y = if c then y else 1;", "y = if y then 1 else 2;", "y = if c then 1 else y;", "y = f(y);", "y = 1 -> y;", "y = y -> 1;",
		"y = f(1, g(2, y));", "y = -y;", "y = not not y;", "a = b; b = a;", "a = b; b = c; c = a;", "x = 1; a = b; b = c; c = pre x + b;", "a = a; b = 1;", "b = 1; a = a;",
		"(a, b) = f(a);", "(a, b) = f(b);", "(a, b) = f(c); c = b;", "(a, b) = f(1, pre a, b);", "i = i;", "a = 1 -> pre b; b = b;", "a = a; a = 1;", "a = b; b = a; b = 1;",
	} {
		if got, e := cause.Order(node(t, s)); e != api.ErrCycle || got != nil {
			t.Errorf("P8.2: %s: %v, %d", s, got, e)
		}
	}
}

// answers tells whether of a program that error is answered, and that
// equation of that node.
func answers(t *testing.T, what string, p ast.Program, at, equation int, want api.Errno) {
	t.Helper()
	if x, e := cause.Check(p); e != want || (x == nil) != (want != api.OK) {
		t.Errorf("P8.3: %.300s: Check answers %v, %d, not %d", what, x, e, want)
	}
	if i, j := cause.Where(p); i != at || j != equation {
		t.Errorf("P8.3: %.300s: Where answers %d, %d, not %d, %d", what, i, j, at, equation)
	}
}

func TestCheck(t *testing.T) {
	fine := "node g(a: int) returns (b: int); let b = a; tel "
	f := "node f(c: bool; i: int) returns (a, b: int); var d, e: int; let "
	two := "node two(a: int) returns (b, c: int); let b = 1; c = a; tel "
	for _, a := range []struct {
		text         string
		at, equation int
		e            api.Errno
	}{
		{"", -1, -1, api.OK},
		{fine, -1, -1, api.OK},
		{f + "a = b; b = d; d = e; e = i; tel", -1, -1, api.OK},
		{f + "a = 1 -> pre a; b = pre b + d; d = pre (a + b); e = 0 -> pre g(e); tel " + fine, -1, -1, api.OK},
		{f + "(a, b) = two(pre (a + b)); (d, e) = two(a); tel " + two, -1, -1, api.OK},
		{f + "a = a; b = 1; d = 2; e = 3; tel", 0, 0, api.ErrCycle},
		{f + "a = 1; b = if c then b else 1; d = 2; e = 3; tel", 0, 1, api.ErrCycle},
		{f + "a = b; b = d; d = b; e = 3; tel", 0, 1, api.ErrCycle},
		{f + "a = b; b = d; d = e; e = e; tel", 0, 3, api.ErrCycle},
		{f + "a = b; b = d; d = e; e = a; tel", 0, 0, api.ErrCycle},
		{f + "a = d; b = 1; d = e + 1; e = 2 * d; tel", 0, 2, api.ErrCycle},
		{f + "a = d; (b, e) = two(b); d = e; tel " + two, 0, 1, api.ErrCycle},
		{f + "d = b; (a, e) = two(1 -> pre b); b = g(d); tel " + fine + two, 0, 0, api.ErrCycle},
		{f + "d = a; (a, b) = two(d); e = 1; tel " + two, 0, 0, api.ErrCycle},
		{fine + f + "a = 1; b = 2; d = 4; e = e; tel", 1, 3, api.ErrCycle},
		{fine + two + f + "a = 1; b = a; d = e; e = d; tel node h() returns (a: int); let a = a; tel", 2, 2, api.ErrCycle},
		{"node h() returns (a: int); let a = a; tel " + f + "a = a; b = b; d = d; e = e; tel", 0, 0, api.ErrCycle},

		// What is given to a call counts, whatever it does with it.
		{"node k(a: int) returns (b: int); let b = 1; tel node h() returns (a: int); let a = k(a); tel", 1, 0, api.ErrCycle},
		{"node k(a: int) returns (b: int); let b = pre a; tel node h() returns (a: int); let a = k(a); tel", 1, 0, api.ErrCycle},
		{"node k(a: int) returns (b: int); let b = a; tel node h() returns (a: int); let a = k(pre a); tel", -1, -1, api.OK},

		// What is not sound counts first, wherever it stands.
		{f + "a = a; b = 1; d = 2; e = true; tel", -1, -1, api.ErrType},
		{f + "a = a; b = 1; d = 2; tel", -1, -1, api.ErrDefine},
		{"node h() returns (a: int); let a = a; tel " + f + "x = 1; tel", -1, -1, api.ErrName},
		{"node h() returns (a: int); let a = a; tel " + fine + "node k() returns (b: int); let b = g(); tel", -1, -1, api.ErrArity},
		{"node h() returns (a: int); let a = a; tel node k() returns (b: int); let b = pre k(); tel", -1, -1, api.ErrCycle},
		{"node k() returns (b: int); let b = pre k(); tel", -1, -1, api.ErrCycle},
	} {
		answers(t, a.text, program(t, a.text), a.at, a.equation, a.e)
	}
}

// TestTypes: of a program that has causes the types are layer 7's.
func TestTypes(t *testing.T) {
	p := program(t, "node f(a: int; c: bool) returns (b: int); var d: bool; let b = if d then pre g(a) else b2(); d = c; tel "+
		"node g(a: int) returns (b: int); let b = b2() + a; tel node b2() returns (y: int); let y = 0 -> pre y; tel")
	x, e := cause.Check(p)
	if e != api.OK || digits(x.Order()) != "2 1 0" {
		t.Fatalf("P8.3: %d", e)
	}
	if kind, is := x.Of(0, "d"); kind != 1 || !is {
		t.Errorf("P8.3: Of: %d, %t", kind, is)
	}
	if i, is := x.Find("g"); i != 1 || !is {
		t.Errorf("P8.3: Find: %d, %t", i, is)
	}
	if l, e := x.Results(0, p.Nodes[0].Eqs[0].Rhs); digits(l) != "0" || e != api.OK {
		t.Errorf("P8.3: Results: %v, %d", l, e)
	}
}

func TestNotRight(t *testing.T) {
	for what, change := range map[string]func(n *ast.Node){
		"a name that is none": func(n *ast.Node) { n.Name = "" },
		"no Outs":             func(n *ast.Node) { n.Outs = nil },
		"no left":             func(n *ast.Node) { n.Eqs[0].Lhs = nil },
		"no kind":             func(n *ast.Node) { n.Eqs[0].Rhs.Kind = 9 },
		"no Kids":             func(n *ast.Node) { n.Eqs[0].Rhs = ast.Expr{Kind: ast.Bin} },
		"1001 equations":      func(n *ast.Node) { n.Eqs = make([]ast.Equation, 1001) },
	} {
		for i := range 3 {
			p := program(t, "node f() returns (a: int); let a = a; tel node g() returns (a: int); let a = a + 1; tel node h() returns (a: int); let x = a; tel")
			change(&p.Nodes[i])
			answers(t, what, p, -1, -1, api.ErrArg)
		}
	}
}
