package cause_test

import (
	"math/rand/v2"
	"reflect"
	"slices"
	"strconv"
	"testing"

	"shuttlecock/api"
	"shuttlecock/ast"
	"shuttlecock/cause"
	"shuttlecock/check"
)

// anyExpr is any expression of ints, no deeper than room, that uses a few
// names.
func anyExpr(r *rand.Rand, names, room int) ast.Expr {
	kind := []int{ast.Int, ast.Var, ast.Un, ast.Un, ast.Bin, ast.If, ast.Call}[r.IntN(7)]
	if room == 1 {
		kind = r.IntN(2) * ast.Var
	}
	kid := func() ast.Expr { return anyExpr(r, names, room-1) }
	switch kind {
	case ast.Int:
		return ast.Expr{N: int64(r.IntN(9))}
	case ast.Var:
		return ast.Expr{Kind: kind, Name: "x" + strconv.Itoa(r.IntN(names))}
	case ast.Un:
		return ast.Expr{Kind: kind, Op: []int{ast.Neg, ast.Pre}[r.IntN(2)], Kids: []ast.Expr{kid()}}
	case ast.Bin:
		return ast.Expr{Kind: kind, Op: []int{ast.Arrow, ast.Add, ast.Mod}[r.IntN(3)], Kids: []ast.Expr{kid(), kid()}}
	case ast.If:
		return ast.Expr{Kind: kind, Kids: []ast.Expr{{Kind: ast.Bin, Op: ast.Eq, Kids: []ast.Expr{kid(), kid()}}, kid(), kid()}}
	}
	return ast.Expr{Kind: kind, Name: "plus", Kids: []ast.Expr{kid(), kid()}}
}

// anyNode is any node of ints that is sound, with the nodes plus and both
// beside it.
func anyNode(r *rand.Rand, name string) ast.Node {
	n := ast.Node{Name: name, Ins: []ast.Variable{{Name: "x0"}}}
	names := 2 + r.IntN(8)
	for i := range names - 1 {
		n.Outs = append(n.Outs, ast.Variable{Name: "x" + strconv.Itoa(i+1)})
	}
	left := r.Perm(names - 1)
	for len(left) > 0 {
		q := ast.Equation{Lhs: []string{n.Outs[left[0]].Name}}
		left = left[1:]
		if len(left) > 0 && r.IntN(4) == 0 {
			q.Lhs = append(q.Lhs, n.Outs[left[0]].Name)
			left = left[1:]
			q.Rhs = ast.Expr{Kind: ast.Call, Name: "both", Kids: []ast.Expr{anyExpr(r, names, 1+r.IntN(3))}}
		} else {
			q.Rhs = anyExpr(r, names, 1+r.IntN(4))
		}
		n.Eqs = append(n.Eqs, q)
	}
	return n
}

// beside are the nodes that any node may call.
const beside = "node plus(a, b: int) returns (c: int); let c = a + b; tel node both(a: int) returns (b, c: int); let b = a; c = 1; tel"

// anyProgram is any program that is sound, unless it is spoilt.
func anyProgram(t *testing.T, seed uint64) ast.Program {
	t.Helper()
	r := rand.New(rand.NewPCG(seed, 8))
	p := program(t, beside)
	for i := range 1 + r.IntN(3) {
		p.Nodes = slices.Insert(p.Nodes, r.IntN(len(p.Nodes)+1), anyNode(r, "f"+strconv.Itoa(i)))
	}
	n := &p.Nodes[r.IntN(len(p.Nodes))]
	if i := r.IntN(len(n.Eqs)); r.IntN(4) == 0 {
		n.Eqs[i].Lhs[0] = "x" + strconv.Itoa(r.IntN(4))
	}
	return p
}

// now is an expression in whose place all that stands below `pre` lacks.
func now(e ast.Expr) ast.Expr {
	if e.Kind == ast.Un && e.Op == ast.Pre {
		return ast.Expr{}
	}
	kids := e.Kids
	e.Kids = nil
	for _, kid := range kids {
		e.Kids = append(e.Kids, now(kid))
	}
	return e
}

// used are the names that an expression uses at once, as the chapter tells.
func used(e ast.Expr) []string {
	var all []string
	for x := range now(e).Walk() {
		if x.Kind == ast.Var && !slices.Contains(all, x.Name) {
			all = append(all, x.Name)
		}
	}
	return all
}

// hanging tells which equations hang on which, as the chapter tells.
func hanging(n ast.Node) [][]bool {
	all := make([][]bool, len(n.Eqs))
	for i, q := range n.Eqs {
		all[i] = make([]bool, len(n.Eqs))
		for _, name := range used(q.Rhs) {
			j := slices.IndexFunc(n.Eqs, func(o ast.Equation) bool { return slices.Contains(o.Lhs, name) })
			if j >= 0 {
				all[i][j] = true
			}
		}
	}
	return all
}

// first is the first equation that hangs on itself; -1, if none does.
func first(n ast.Node) int {
	on := hanging(n)
	for k := range on {
		for i := range on {
			for j := range on {
				on[i][j] = on[i][j] || on[i][k] && on[k][j]
			}
		}
	}
	for i := range on {
		if on[i][i] {
			return i
		}
	}
	return -1
}

// order is that of a node's equations, none of which hangs on itself.
func order(n ast.Node) []int {
	on := hanging(n)
	var all []int
	for len(all) < len(on) {
		next := 0
		for slices.Contains(all, next) || waits(on[next], all) {
			next++
		}
		all = append(all, next)
	}
	return all
}

// waits: does one hang on something that has not come?
func waits(on []bool, come []int) bool {
	for j, is := range on {
		if is && !slices.Contains(come, j) {
			return true
		}
	}
	return false
}

// nodes holds what is answered of each node of a program that is right, sound
// or not, and of all its expressions, against what the chapter tells. It tells
// the first node and equation of a circle.
func nodes(t *testing.T, p ast.Program) (int, int) {
	t.Helper()
	at, equation := -1, -1
	for i, n := range p.Nodes {
		for _, q := range n.Eqs {
			for e := range q.Rhs.Walk() {
				if got := cause.Uses(e); !slices.Equal(got, used(e)) {
					t.Fatalf("P8.1: %v: %v, not %v", e, got, used(e))
				}
			}
		}
		l, e := cause.Order(n)
		switch j := first(n); {
		case j >= 0 && (l != nil || e != api.ErrCycle):
			t.Fatalf("P8.2: %v: %v, %d, not ErrCycle", n, l, e)
		case j >= 0 && at < 0:
			at, equation = i, j
		case j < 0 && (e != api.OK || !slices.Equal(l, order(n))):
			t.Fatalf("P8.2: %v: %v, %d, not %v", n, l, e, order(n))
		}
	}
	return at, equation
}

func TestWhateverComes(t *testing.T) {
	count := map[string]int{}
	for seed := range uint64(6000) {
		p, kept := anyProgram(t, seed), anyProgram(t, seed)
		at, equation := nodes(t, p)
		y, e := check.Check(p)
		switch {
		case e != api.OK:
			at, equation = -1, -1
			count["not sound"]++
		case at >= 0:
			e = api.ErrCycle
			count["a circle"]++
			count["of node "+strconv.Itoa(min(at, 2))]++
			count["of equation "+strconv.Itoa(min(equation, 2))]++
		default:
			count["with causes"]++
		}
		answers(t, "seed "+strconv.FormatUint(seed, 10), p, at, equation, e)
		if x, _ := cause.Check(p); e == api.OK && !reflect.DeepEqual(x, y) {
			t.Fatalf("P8.3: seed %d: not layer 7's types", seed)
		}
		answers(t, "R6: seed "+strconv.FormatUint(seed, 10), kept, at, equation, e)
		if !reflect.DeepEqual(p, kept) || !reflect.DeepEqual(p, anyProgram(t, seed)) {
			t.Fatalf("R4: seed %d: what is handed in is changed", seed)
		}
		if t.Failed() {
			return
		}
	}
	for _, what := range []string{"not sound", "a circle", "with causes", "of node 0", "of node 1", "of node 2", "of equation 0", "of equation 1", "of equation 2"} {
		if count[what] < 100 {
			t.Errorf("only %d are %s", count[what], what)
		}
	}
}

// TestMany asks of as many equations as there may be: in a chain, and each of
// them hanging on many others.
func TestMany(t *testing.T) {
	const many = 1000
	x := func(i int) string { return "x" + strconv.Itoa(i) }
	n := ast.Node{Name: "f"}
	falling := make([]int, many)
	for i := range many {
		falling[i] = many - 1 - i
		n.Outs = append(n.Outs, ast.Variable{Name: x(i)})
		n.Eqs = append(n.Eqs, ast.Equation{Lhs: []string{x(i)}, Rhs: ast.Expr{Kind: ast.Var, Name: x(i + 1)}})
	}
	last := &n.Eqs[many-1].Rhs
	for range 2 {
		*last = ast.Expr{}
		p := ast.Program{Nodes: []ast.Node{n}}
		if l, e := cause.Order(n); e != api.OK || !slices.Equal(l, falling) {
			t.Errorf("P8.2: %d", e)
		}
		answers(t, "many", p, -1, -1, api.OK)
		for _, back := range []int{0, 1, many / 2, many - 1} {
			*last = ast.Expr{Kind: ast.Var, Name: x(back)}
			if l, e := cause.Order(n); e != api.ErrCycle || l != nil {
				t.Errorf("P8.2: %d: %d", back, e)
			}
			answers(t, "many", p, 0, back, api.ErrCycle)
		}
		for i := range many - 1 {
			for j := i + 2; j < min(many, i+100); j++ {
				n.Eqs[i].Rhs = ast.Expr{Kind: ast.Bin, Op: ast.Add, Kids: []ast.Expr{n.Eqs[i].Rhs, {Kind: ast.Var, Name: x(j)}}}
			}
		}
	}
}

// TestEndless asks of an expression that is its own Kid, and of others that
// are not right.
func TestEndless(t *testing.T) {
	own := ast.Expr{Kind: ast.Bin, Op: ast.Add, Kids: make([]ast.Expr, 2)}
	own.Kids[0], own.Kids[1] = own, own
	deep := ast.Expr{}
	for range 1 << 16 {
		deep = ast.Expr{Kind: ast.Un, Kids: []ast.Expr{deep}}
	}
	for _, e := range []ast.Expr{own, deep, {Kind: -1}, {Kind: 7}, {Kind: ast.Un, Op: 9}, {Kind: ast.Bin}, {Kind: ast.If, Kids: make([]ast.Expr, 1)}, {Kind: ast.Var}} {
		cause.Uses(e)
		n := node(t, "y = y;")
		n.Eqs = append(n.Eqs, ast.Equation{Rhs: e}, ast.Equation{Lhs: []string{"", "y"}, Rhs: e})
		cause.Order(n)
		p := program(t, beside)
		p.Nodes[1].Eqs[0].Rhs = e
		answers(t, "not right", p, -1, -1, api.ErrArg)
	}
	cause.Uses(ast.Expr{})
	cause.Order(ast.Node{})
}

func TestNilAndEmpty(t *testing.T) {
	for _, p := range []ast.Program{{}, {Nodes: []ast.Node{}}} {
		answers(t, "no nodes", p, -1, -1, api.OK)
	}
	e := ast.Expr{Kind: ast.Call, Name: "f", Kids: []ast.Expr{{Kind: ast.Var, Name: "a", Kids: []ast.Expr{}}}}
	if l := cause.Uses(e); !slices.Equal(l, []string{"a"}) {
		t.Errorf("R3: %v", l)
	}
	n := node(t, "y = 1;")
	n.Ins, n.Locals, n.Eqs = []ast.Variable{}, []ast.Variable{}, []ast.Equation{}
	if l, e := cause.Order(n); len(l) != 0 || e != api.OK {
		t.Errorf("R3: %v, %d", l, e)
	}
}

// TestAnswersShareNothing changes answers, and asks again.
func TestAnswersShareNothing(t *testing.T) {
	n := node(t, "a = b + c; b = c; c = 1;")
	for range 3 {
		l, e := cause.Order(n)
		if e != api.OK || digits(l) != "2 1 0" {
			t.Fatalf("R4: %v, %d", l, e)
		}
		l[0], l[1] = 7, 7
		names := cause.Uses(n.Eqs[0].Rhs)
		if !slices.Equal(names, []string{"b", "c"}) {
			t.Fatalf("R4: %v", names)
		}
		names[0] = "z"
	}
	p := program(t, beside)
	x, _ := cause.Check(p)
	p.Nodes[0].Ins[0], p.Nodes[0].Eqs[0].Lhs[0] = ast.Variable{Name: "z", Type: 1}, "z"
	p.Nodes = p.Nodes[:1]
	if kind, is := x.Of(0, "a"); kind != 0 || !is || digits(x.Order()) != "0 1" {
		t.Error("R4: what was handed in is kept")
	}
}
