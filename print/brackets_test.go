package print_test

import (
	"slices"
	"strings"
	"testing"

	"shuttlecock/api"
	"shuttlecock/ast"
	"shuttlecock/parse"
	"shuttlecock/print"
)

// theLevels are the ops of two by their levels, as the document has them.
var theLevels = [][]int{
	{ast.Arrow}, {ast.Implies}, {ast.Or, ast.Xor}, {ast.And}, {ast.Eq, ast.Ne, ast.Lt, ast.Le, ast.Gt, ast.Ge}, {ast.Add, ast.Sub}, {ast.Mul, ast.Div, ast.Mod},
}

// levelOf is how tight an expression stands; of an if looser than all.
func levelOf(e ast.Expr) int {
	switch e.Kind {
	case ast.If:
		return -1
	case ast.Un:
		return 7
	case ast.Bin:
		return slices.IndexFunc(theLevels, func(some []int) bool { return slices.Contains(some, e.Op) })
	}
	return 8
}

// place is a place in an expression: what level it asks (of -1 none), and what
// stands around an operand there.
type place struct {
	asks int
	put  func(e ast.Expr) ast.Expr
	text string // with a bar where the operand stands
}

// places are all places, by the document's words.
func places() []place {
	a, b := of("a"), of("b")
	all := []place{
		{-1, func(e ast.Expr) ast.Expr { return choice(e, a, b) }, "if | then a else b"},
		{-1, func(e ast.Expr) ast.Expr { return choice(a, e, b) }, "if a then | else b"},
		{-1, func(e ast.Expr) ast.Expr { return choice(a, b, e) }, "if a then b else |"},
		{-1, func(e ast.Expr) ast.Expr { return call("f", e) }, "f(|)"},
		{-1, func(e ast.Expr) ast.Expr { return call("f", e, a) }, "f(|, a)"},
		{-1, func(e ast.Expr) ast.Expr { return call("f", a, e) }, "f(a, |)"},
		{7, func(e ast.Expr) ast.Expr { return un(ast.Neg, e) }, "-|"},
		{7, func(e ast.Expr) ast.Expr { return un(ast.Not, e) }, "not |"},
		{7, func(e ast.Expr) ast.Expr { return un(ast.Pre, e) }, "pre |"},
	}
	for op, s := range strings.Fields("-> => or xor and = <> < <= > >= + - * div mod") {
		n := levelOf(bin(op, a, b))
		left, right := n, n+1
		switch n {
		case 0, 1:
			left, right = n+1, n
		case 4:
			left = n + 1
		}
		all = append(all,
			place{left, func(e ast.Expr) ast.Expr { return bin(op, e, a) }, "| " + s + " a"},
			place{right, func(e ast.Expr) ast.Expr { return bin(op, a, e) }, "a " + s + " |"})
	}
	return all
}

// samples are expressions, one with each op.
func samples() []ast.Expr {
	a, b := of("c"), of("d")
	all := []ast.Expr{num(1), truth(0), a, call("f"), call("g", a, b), choice(a, b, b), choice(a, b, un(ast.Neg, b))}
	for op := range 3 {
		all = append(all, un(op, a), un(op, un(ast.Neg, b)), un(op, num(0)))
	}
	for op := range 16 {
		all = append(all, bin(op, a, b), bin(op, un(ast.Neg, a), un(ast.Not, b)))
	}
	return all
}

// reads is the expression of a text, if it is one.
func reads(s string) (ast.Expr, bool) {
	p, _, e := parse.Parse(head + s + tail)
	if e != api.OK || len(p.Nodes) != 1 || len(p.Nodes[0].Eqs) != 1 {
		return ast.Expr{}, false
	}
	return p.Nodes[0].Eqs[0].Rhs, true
}

// TestEachPlace asks of each expression at each place whether it stands in
// brackets as the document's words ask, and just if it has to, so as to be
// parsed as it was.
func TestEachPlace(t *testing.T) {
	for _, where := range places() {
		for _, e := range samples() {
			x, inner := where.put(e), print.Expr(e)
			bare := strings.Replace(where.text, "|", inner, 1)
			if where.text == "-|" && e.Kind == ast.Un && e.Op == ast.Neg {
				bare = "- " + inner
			}
			want := bare
			if levelOf(e) < where.asks {
				want = strings.Replace(where.text, "|", "("+inner+")", 1)
			}
			prints(t, x, want)
			if got, is := reads(bare); (is && got.Same(x)) != (want == bare) {
				t.Errorf("P6.2: %q, and %q", want, bare)
			}
			for _, outer := range places() {
				roundTrip(t, outer.put(x))
			}
		}
	}
}

// roundTrip tells whether an expression is parsed as it was from its text.
func roundTrip(t *testing.T, e ast.Expr) {
	t.Helper()
	s := print.Expr(e)
	if x, is := reads(s); !is || !x.Same(e) {
		t.Errorf("P6.2: %q: not parsed as it was", s)
	}
}

// pairs are where the brackets of a text stand, the first with its end.
func pairs(s string) [][2]int {
	var all [][2]int
	var open []int
	for i, c := range s {
		switch c {
		case '(':
			open = append(open, i)
		case ')':
			all = append(all, [2]int{open[len(open)-1], i})
			open = open[:len(open)-1]
		}
	}
	return all
}

// needsAll tells whether without any of its brackets a program's text means
// another thing, or nothing.
func needsAll(t *testing.T, p ast.Program) int {
	t.Helper()
	s, _ := print.Print(p)
	all := pairs(s)
	for _, x := range all {
		for _, instead := range []string{"", " "} {
			without := s[:x[0]] + instead + s[x[0]+1:x[1]] + instead + s[x[1]+1:]
			if q, _, e := parse.Parse(without); e == api.OK && q.Same(p) {
				t.Errorf("P6.2: %q: the same without the brackets at %d", s, x[0])
			}
		}
	}
	return len(all)
}

func TestNoBracketsTooMany(t *testing.T) {
	brackets := 0
	for _, first := range places() {
		for _, second := range places() {
			brackets += needsAll(t, with(first.put(second.put(bin(ast.Arrow, of("c"), of("d"))))))
			brackets += needsAll(t, with(first.put(second.put(choice(of("c"), of("d"), num(1))))))
			brackets += needsAll(t, with(second.put(first.put(bin(ast.Sub, of("c"), un(ast.Neg, of("d")))))))
		}
	}
	if brackets < 10000 {
		t.Errorf("only %d brackets", brackets)
	}
}
