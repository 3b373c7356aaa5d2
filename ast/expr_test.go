package ast_test

import (
	"math"
	"slices"
	"strconv"
	"strings"
	"testing"

	"shuttlecock/ast"
)

// num, truth, of, un, bin, choice and call make expressions that are right,
// if what they are given is.
func num(n int64) ast.Expr   { return ast.Expr{Kind: ast.Int, N: n} }
func truth(n int64) ast.Expr { return ast.Expr{Kind: ast.Bool, N: n} }
func of(s string) ast.Expr   { return ast.Expr{Kind: ast.Var, Name: s} }
func un(op int, kid ast.Expr) ast.Expr {
	return ast.Expr{Kind: ast.Un, Op: op, Kids: []ast.Expr{kid}}
}
func bin(op int, left, right ast.Expr) ast.Expr {
	return ast.Expr{Kind: ast.Bin, Op: op, Kids: []ast.Expr{left, right}}
}
func choice(whether, then, other ast.Expr) ast.Expr {
	return ast.Expr{Kind: ast.If, Kids: []ast.Expr{whether, then, other}}
}
func call(name string, kids ...ast.Expr) ast.Expr {
	return ast.Expr{Kind: ast.Call, Name: name, Kids: kids}
}

// vars are n variables, x0 and on.
func vars(n int) []ast.Expr {
	var all []ast.Expr
	for i := range n {
		all = append(all, of("x"+strconv.Itoa(i)))
	}
	return all
}

// over are the ways to put a Kid below something that has Kids.
var over = map[string]func(kid ast.Expr) ast.Expr{
	"un":              func(kid ast.Expr) ast.Expr { return un(ast.Pre, kid) },
	"left of a bin":   func(kid ast.Expr) ast.Expr { return bin(ast.Add, kid, num(1)) },
	"right of a bin":  func(kid ast.Expr) ast.Expr { return bin(ast.Add, num(1), kid) },
	"first of an if":  func(kid ast.Expr) ast.Expr { return choice(kid, num(1), num(2)) },
	"second of an if": func(kid ast.Expr) ast.Expr { return choice(num(1), kid, num(2)) },
	"third of an if":  func(kid ast.Expr) ast.Expr { return choice(num(1), num(2), kid) },
	"only of a call":  func(kid ast.Expr) ast.Expr { return call("f", kid) },
	"first of a call": func(kid ast.Expr) ast.Expr { return call("f", kid, num(1), num(2), num(3)) },
	"inner of a call": func(kid ast.Expr) ast.Expr { return call("f", num(1), kid, num(2), num(3)) },
	"last of a call":  func(kid ast.Expr) ast.Expr { return call("f", num(1), num(2), num(3), kid) },
}

// deep is an expression of a depth, put one over the other as put says, with
// a leaf at the bottom.
func deep(depth int, leaf ast.Expr, put func(ast.Expr) ast.Expr) ast.Expr {
	for range depth - 1 {
		leaf = put(leaf)
	}
	return leaf
}

// sample is an expression with all kinds, whose parts in order are as told.
func sample() (ast.Expr, string) {
	e := choice(
		bin(ast.And, truth(1), un(ast.Not, of("c"))),
		call("f", num(7), bin(ast.Arrow, num(0), un(ast.Pre, of("x"))), call("g")),
		un(ast.Neg, num(8)))
	return e, "5, 4/4, 1=1, 3/1, 2c, 6f, 0=7, 4/0, 0=0, 3/2, 2x, 6g, 3/0, 0=8"
}

// short tells an expression without its Kids.
func short(e ast.Expr) string {
	s := strconv.Itoa(e.Kind) + e.Name
	switch e.Kind {
	case ast.Int, ast.Bool:
		s += "=" + strconv.FormatInt(e.N, 10)
	case ast.Un, ast.Bin:
		s += "/" + strconv.Itoa(e.Op)
	}
	return s
}

func TestKindsAndOps(t *testing.T) {
	for want, kind := range []int{ast.Int, ast.Bool, ast.Var, ast.Un, ast.Bin, ast.If, ast.Call} {
		if kind != want {
			t.Errorf("the kind %d is %d", want, kind)
		}
	}
	for want, op := range []int{ast.Neg, ast.Not, ast.Pre} {
		if op != want {
			t.Errorf("the op of one %d is %d", want, op)
		}
	}
	for want, op := range []int{
		ast.Arrow, ast.Implies, ast.Or, ast.Xor, ast.And, ast.Eq, ast.Ne, ast.Lt, ast.Le, ast.Gt, ast.Ge,
		ast.Add, ast.Sub, ast.Mul, ast.Div, ast.Mod,
	} {
		if op != want {
			t.Errorf("the op of two %d is %d", want, op)
		}
	}
}

func TestDepthAndSize(t *testing.T) {
	all, _ := sample()
	for i, c := range []struct {
		e           ast.Expr
		depth, size int
	}{
		{ast.Expr{}, 1, 1},
		{num(5), 1, 1},
		{truth(0), 1, 1},
		{of("x"), 1, 1},
		{call("f"), 1, 1},
		{ast.Expr{Kind: ast.Call, Kids: []ast.Expr{}}, 1, 1},
		{un(ast.Pre, of("x")), 2, 2},
		{bin(ast.Add, num(1), num(2)), 2, 3},
		{bin(ast.Add, num(1), bin(ast.Add, num(2), num(3))), 3, 5},
		{bin(ast.Add, bin(ast.Add, num(2), num(3)), num(1)), 3, 5},
		{choice(truth(1), un(ast.Neg, num(1)), num(2)), 3, 5},
		{call("f", vars(1000)...), 2, 1001},
		{all, 5, 14},
		// What is not right has a depth and a size, too.
		{ast.Expr{Kind: -1, N: -9}, 1, 1},
		{ast.Expr{Kind: ast.Int, Kids: vars(3)}, 2, 4},
		{ast.Expr{Kind: ast.Var, Name: "x", Kids: []ast.Expr{un(ast.Neg, num(1))}}, 3, 3},
		{ast.Expr{Kind: 99, Kids: []ast.Expr{{}, {Kind: -5, Kids: vars(1)}, {}}}, 3, 5},
		{ast.Expr{Kind: ast.Un}, 1, 1},
		{call("f", vars(1001)...), 2, 1002},
	} {
		if d, s := c.e.Depth(), c.e.Size(); d != c.depth || s != c.size {
			t.Errorf("P3.1: %d: depth %d and size %d, not %d and %d", i, d, s, c.depth, c.size)
		}
	}
}

func TestDepthByEachKid(t *testing.T) {
	for where, put := range over {
		kids := put(num(0)).Size() - 1
		for _, n := range []int{1, 2, 3, 200, 201, 1000} {
			e := deep(n, num(0), put)
			if d, s := e.Depth(), e.Size(); d != n || s != 1+(n-1)*kids {
				t.Errorf("P3.1: %s: depth %d and size %d of the depth %d", where, d, s, n)
			}
		}
	}
}

func TestWalk(t *testing.T) {
	e, want := sample()
	var all []string
	for x := range e.Walk() {
		all = append(all, short(x))
	}
	if got := strings.Join(all, ", "); got != want {
		t.Errorf("P3.2: %s, not %s", got, want)
	}
	for i, e := range []ast.Expr{{}, num(-1), {Kind: ast.Un}, {Kind: 99, Op: -1, N: math.MinInt64, Name: "if", Kids: vars(3)}, call("", vars(1001)...)} {
		got := slices.Collect(e.Walk())
		want := append([]ast.Expr{e}, e.Kids...)
		if !slices.EqualFunc(got, want, ast.Expr.Same) {
			t.Errorf("P3.2: %d: %d of %d, or other ones", i, len(got), len(want))
		}
	}
}

func TestWalkHasTheKids(t *testing.T) {
	e, _ := sample()
	next := []ast.Expr{e}
	for x := range e.Walk() {
		if len(next) == 0 || !x.Same(next[0]) {
			t.Fatalf("P3.2: %s comes at another place, or is another one", short(x))
		}
		next = append(slices.Clone(x.Kids), next[1:]...)
	}
	if len(next) > 0 {
		t.Errorf("P3.2: %d do not come", len(next))
	}
}

func TestWalkIsStopped(t *testing.T) {
	e, whole := sample()
	want := strings.Split(whole, ", ")
	walk := e.Walk()
	for most := range want {
		var all []string
		walk(func(x ast.Expr) bool {
			all = append(all, short(x))
			return len(all) <= most
		})
		if !slices.Equal(all, want[:most+1]) {
			t.Errorf("P3.2: stopped at %d: %v", most, all)
		}
		for x := range walk {
			if short(x) != want[0] {
				t.Errorf("P3.2: a walk that was stopped begins with %s", short(x))
			}
			break
		}
		if n := len(slices.Collect(walk)); n != len(want) {
			t.Errorf("P3.2: a walk that was stopped has %d", n)
		}
	}
}

func TestWalksInOneAnother(t *testing.T) {
	e, _ := sample()
	n := 0
	for x := range e.Walk() {
		for range x.Walk() {
			n++
		}
	}
	if n != 42 {
		t.Errorf("P3.2: %d in all, not 42", n)
	}
}
