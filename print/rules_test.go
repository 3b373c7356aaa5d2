package print_test

import (
	"math"
	"math/rand/v2"
	"slices"
	"strconv"
	"strings"
	"testing"

	"shuttlecock/api"
	"shuttlecock/ast"
	"shuttlecock/parse"
	"shuttlecock/print"
)

func anyName(r *rand.Rand) string {
	names := []string{"a", "b", "_", "x1", "Node", "pre_", "if1", "TEL", strings.Repeat("n", 60), "_" + strings.Repeat("9", 59)}
	return names[r.IntN(len(names))]
}

// anyExpr is any expression that is right, no deeper than room.
func anyExpr(r *rand.Rand, room int) ast.Expr {
	kind := r.IntN(7)
	if room == 1 {
		kind = []int{ast.Int, ast.Bool, ast.Var, ast.Call}[r.IntN(4)]
	}
	kid := func() ast.Expr { return anyExpr(r, room-1) }
	switch kind {
	case ast.Int:
		return num([]int64{0, 1, 7, 1 << 40, math.MaxInt64}[r.IntN(5)])
	case ast.Bool:
		return truth(int64(r.IntN(2)))
	case ast.Var:
		return of(anyName(r))
	case ast.Un:
		return un(r.IntN(3), kid())
	case ast.Bin:
		return bin(r.IntN(16), kid(), kid())
	case ast.If:
		return choice(kid(), kid(), kid())
	}
	e := call(anyName(r))
	for range r.IntN(4) {
		if room > 1 {
			e.Kids = append(e.Kids, kid())
		}
	}
	return e
}

func anyVariables(r *rand.Rand, least int) []ast.Variable {
	var all []ast.Variable
	for range least + r.IntN(4) {
		all = append(all, ast.Variable{Name: anyName(r), Type: r.IntN(2)})
	}
	return all
}

// anyProgram is any program that is right.
func anyProgram(r *rand.Rand) ast.Program {
	var p ast.Program
	for range r.IntN(4) {
		n := ast.Node{Name: anyName(r), Ins: anyVariables(r, 0), Outs: anyVariables(r, 1), Locals: anyVariables(r, 0)}
		for range r.IntN(4) {
			q := ast.Equation{Lhs: []string{anyName(r)}, Rhs: anyExpr(r, 1+r.IntN(6))}
			for range r.IntN(3) {
				q.Lhs = append(q.Lhs, anyName(r))
			}
			n.Eqs = append(n.Eqs, q)
		}
		p.Nodes = append(p.Nodes, n)
	}
	return p
}

// plain is an expression's text with a pair of brackets around each operand.
func plain(e ast.Expr) string {
	ones, twos := []string{"-", "not", "pre"}, strings.Fields("-> => or xor and = <> < <= > >= + - * div mod")
	kid := func(i int) string { return "(" + plain(e.Kids[i]) + ")" }
	switch e.Kind {
	case ast.Int:
		return strconv.FormatInt(e.N, 10)
	case ast.Bool:
		return strconv.FormatBool(e.N == 1)
	case ast.Un:
		return ones[e.Op] + kid(0)
	case ast.Bin:
		return kid(0) + twos[e.Op] + kid(1)
	case ast.If:
		return "if" + kid(0) + "then" + kid(1) + "else" + kid(2)
	case ast.Call:
		var all []string
		for i := range e.Kids {
			all = append(all, kid(i))
		}
		return e.Name + "(" + strings.Join(all, ",") + ")"
	}
	return e.Name
}

func TestWhateverIsRight(t *testing.T) {
	for seed := range uint64(2000) {
		p, kept := anyProgram(rand.New(rand.NewPCG(seed, 6))), anyProgram(rand.New(rand.NewPCG(seed, 6)))
		s, e := print.Print(p)
		if e != api.OK || !p.Right() {
			t.Fatalf("P6.1: seed %d: %d", seed, e)
		}
		if q, _, f := parse.Parse(s); f != api.OK || !q.Same(p) {
			t.Fatalf("P6.2: %q: not parsed as it was, %d", s, f)
		}
		if again, _ := print.Print(kept); again != s || !p.Same(kept) {
			t.Fatalf("R6: %q: asked twice, and not answered likewise", s)
		}
		if lines := strings.Split(s, "\n"); lines[len(lines)-1] != "" || slices.ContainsFunc(lines, func(x string) bool { return x != strings.TrimRight(x, " ") }) {
			t.Fatalf("P6.1: %q: a line that is not ended", s)
		}
		if len(s) < 1500 {
			needsAll(t, p)
		}
		for _, n := range p.Nodes {
			for _, q := range n.Eqs {
				x := print.Expr(q.Rhs)
				if !strings.Contains(s, " = "+x+";\n") {
					t.Fatalf("P6.1: %q is not in %q", x, s)
				}
				if y, is := reads(plain(q.Rhs)); !is || print.Expr(y) != x {
					t.Fatalf("P6.2: %q: another text with more brackets", x)
				}
			}
		}
	}
}

// TestDeepest asks of the deepest expressions that are right: what is open at
// any token of their texts is not too much.
func TestDeepest(t *testing.T) {
	over := map[string]func(e ast.Expr) ast.Expr{
		"a prefix":            func(e ast.Expr) ast.Expr { return un(ast.Neg, e) },
		"left of an arrow":    func(e ast.Expr) ast.Expr { return bin(ast.Arrow, e, num(1)) },
		"right of an arrow":   func(e ast.Expr) ast.Expr { return bin(ast.Arrow, num(1), e) },
		"right of an implies": func(e ast.Expr) ast.Expr { return bin(ast.Implies, num(1), e) },
		"right of a product":  func(e ast.Expr) ast.Expr { return bin(ast.Mul, num(1), e) },
		"right of a sum":      func(e ast.Expr) ast.Expr { return bin(ast.Sub, num(1), e) },
		"right of an equal":   func(e ast.Expr) ast.Expr { return bin(ast.Eq, num(1), e) },
		"first of an if":      func(e ast.Expr) ast.Expr { return choice(e, num(1), num(2)) },
		"last of an if":       func(e ast.Expr) ast.Expr { return choice(num(1), num(2), e) },
		"a call":              func(e ast.Expr) ast.Expr { return call("f", num(1), e) },
	}
	names := []string{"a prefix", "right of an implies", "right of an arrow", "last of an if"} // each the next one's operand: the most that can be open
	for where := range over {
		for other := range over {
			e, f := of("a"), call("f")
			for i := range 199 {
				put := over[[]string{where, other}[i%2]]
				e, f = put(e), over[names[3-(i%4)]](f)
			}
			if e.Depth() != 200 || !e.Right() || !f.Right() {
				t.Fatalf("%s, %s: %d deep", where, other, e.Depth())
			}
			roundTrip(t, e)
			roundTrip(t, f)
		}
	}
	for seed := range uint64(300) {
		r := rand.New(rand.NewPCG(seed, 61))
		keys := []string{"a prefix", "right of an arrow", "right of an implies", "last of an if", "a call", "left of an arrow", "right of a product"}
		e := call("f", num(1))
		for range 198 {
			e = over[keys[r.IntN(2+int(seed%6))]](e)
		}
		roundTrip(t, e)
	}
}

// TestLongLists asks of a program whose lists have as many entries as they
// may.
func TestLongLists(t *testing.T) {
	variables := slices.Repeat([]ast.Variable{{Name: "a", Type: 1}, {Name: "b"}}, 500)
	equations := slices.Repeat([]ast.Equation{{Lhs: []string{"a"}, Rhs: num(1)}}, 1000)
	equations[999] = ast.Equation{Lhs: slices.Repeat([]string{"a"}, 1000), Rhs: call("f", slices.Repeat([]ast.Expr{un(ast.Pre, of("b"))}, 1000)...)}
	p := ast.Program{Nodes: slices.Repeat(with(num(1)).Nodes, 1000)}
	p.Nodes[500] = ast.Node{Name: "g", Ins: variables, Outs: variables, Locals: variables, Eqs: equations}
	s, e := print.Print(p)
	if q, _, f := parse.Parse(s); e != api.OK || f != api.OK || !q.Same(p) {
		t.Errorf("P6.2: long lists: %d, %d", e, f)
	}
}

func TestNilAndEmpty(t *testing.T) {
	p, q := with(call("f")), with(ast.Expr{Kind: ast.Call, Name: "f", Kids: []ast.Expr{}})
	q.Nodes[0].Ins, q.Nodes[0].Locals = []ast.Variable{}, []ast.Variable{}
	s, _ := print.Print(p)
	if again, e := print.Print(q); s != again || e != api.OK {
		t.Errorf("R3: %q, and %q", s, again)
	}
	if s, e := print.Print(ast.Program{Nodes: []ast.Node{}}); s != "" || e != api.OK {
		t.Errorf("R3: %q, %d", s, e)
	}
}

// TestEndless asks of an expression that is its own Kid.
func TestEndless(t *testing.T) {
	e := bin(ast.Add, num(1), num(2))
	e.Kids[0], e.Kids[1] = e, e
	if s, errno := print.Print(with(e)); s != "" || errno != api.ErrArg || print.Expr(e) != "" {
		t.Errorf("R1: %.100q, %d", s, errno)
	}
}

func TestNothingIsKept(t *testing.T) {
	p := with(bin(ast.Mul, bin(ast.Add, of("a"), num(1)), num(2)))
	s, _ := print.Print(p)
	for _, e := range wrongs() {
		print.Expr(e)
		print.Print(with(e))
		if again, errno := print.Print(p); again != s || errno != api.OK {
			t.Errorf("R6: %q, and then %q", s, again)
		}
	}
}
