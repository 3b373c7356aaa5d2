package ast_test

import (
	"iter"
	"math"
	"math/rand/v2"
	"reflect"
	"slices"
	"strconv"
	"strings"
	"testing"

	"shuttlecock/ast"
)

// The calls have the signatures of the document.
var (
	_ func(string) bool = ast.Name
	_ func(string) bool = ast.Word
	_ interface {
		Depth() int
		Size() int
		Right() bool
		Same(ast.Expr) bool
		Walk() iter.Seq[ast.Expr]
	} = ast.Expr{}
	_ interface{ Right() bool } = ast.Node{}
	_ interface {
		Right() bool
		Same(ast.Program) bool
	} = ast.Program{}
)

// The structs have the fields of the document, and no others (R3).
var (
	_ = struct {
		Kind, Op int
		N        int64
		Name     string
		Kids     []ast.Expr
	}(ast.Expr{})
	_ = struct {
		Name string
		Type int
	}(ast.Variable{})
	_ = struct {
		Lhs []string
		Rhs ast.Expr
	}(ast.Equation{})
	_ = struct {
		Name              string
		Ins, Outs, Locals []ast.Variable
		Eqs               []ast.Equation
	}(ast.Node{})
	_ = struct{ Nodes []ast.Node }(ast.Program{})
)

// anyInt, and the others below, make what may come, mostly what is right, so
// that what is not is met in many places.
func anyInt(r *rand.Rand, near int) int {
	if r.IntN(40) == 0 {
		return []int{math.MinInt, -1, math.MaxInt, near + 1}[r.IntN(4)]
	}
	return r.IntN(near + 1)
}

func anyName(r *rand.Rand) string {
	if r.IntN(40) == 0 {
		return noNames()[r.IntN(len(noNames()))]
	}
	return names()[r.IntN(len(names()))]
}

func anyExpr(r *rand.Rand, room int) ast.Expr {
	e := ast.Expr{Kind: anyInt(r, 6)}
	least := []int{0, 0, 0, 1, 2, 3, r.IntN(4)}
	kids := r.IntN(4)
	if e.Kind >= 0 && e.Kind < len(least) && r.IntN(40) > 0 {
		kids = least[e.Kind]
	}
	if e.Kind == ast.Un {
		e.Op = anyInt(r, 2)
	}
	if e.Kind == ast.Bin {
		e.Op = anyInt(r, 15)
	}
	if e.Kind == ast.Var || e.Kind == ast.Call || r.IntN(60) == 0 {
		e.Name = anyName(r)
	}
	if e.Kind == ast.Int || e.Kind == ast.Bool || r.IntN(60) == 0 {
		e.N = int64(anyInt(r, 1))
	}
	for range kids {
		if room > 0 {
			e.Kids = append(e.Kids, anyExpr(r, room-1))
		}
	}
	return e
}

func anyVariables(r *rand.Rand) []ast.Variable {
	var all []ast.Variable
	for range r.IntN(3) {
		all = append(all, ast.Variable{Name: anyName(r), Type: anyInt(r, 1)})
	}
	return all
}

func anyProgram(r *rand.Rand) ast.Program {
	var p ast.Program
	for range r.IntN(3) {
		n := ast.Node{Name: anyName(r), Ins: anyVariables(r), Outs: anyVariables(r), Locals: anyVariables(r)}
		for range r.IntN(3) {
			q := ast.Equation{Rhs: anyExpr(r, 4)}
			for range r.IntN(4) {
				q.Lhs = append(q.Lhs, anyName(r))
			}
			n.Eqs = append(n.Eqs, q)
		}
		p.Nodes = append(p.Nodes, n)
	}
	return p
}

// told is all that the calls answer of a program, and of what it has.
func told(p ast.Program) string {
	var s strings.Builder
	yes := func(is bool) { s.WriteString(strconv.FormatBool(is) + " ") }
	yes(p.Right())
	yes(p.Same(p))
	yes(p.Same(ast.Program{}))
	for _, n := range p.Nodes {
		yes(n.Right())
		yes(ast.Name(n.Name))
		yes(ast.Word(n.Name))
		for _, q := range n.Eqs {
			yes(q.Rhs.Right())
			yes(q.Rhs.Same(q.Rhs))
			yes(q.Rhs.Same(ast.Expr{}))
			s.WriteString(strconv.Itoa(q.Rhs.Depth()) + " " + strconv.Itoa(q.Rhs.Size()) + " ")
			for x := range q.Rhs.Walk() {
				s.WriteString(short(x) + " ")
			}
		}
	}
	return s.String()
}

func TestWhateverComes(t *testing.T) {
	rights := 0
	for seed := range uint64(3000) {
		p := anyProgram(rand.New(rand.NewPCG(seed, 3)))
		kept := anyProgram(rand.New(rand.NewPCG(seed, 3)))
		first := told(p)
		if !reflect.DeepEqual(p, kept) {
			t.Fatalf("R4: seed %d: what is handed in is changed", seed)
		}
		if told(p) != first || told(kept) != first {
			t.Fatalf("R6: seed %d: asked twice, and not answered likewise", seed)
		}
		if !p.Same(kept) {
			t.Fatalf("P3.1: seed %d: not the same as its copy", seed)
		}
		right(t, "seed "+strconv.FormatUint(seed, 10), p)
		for _, n := range p.Nodes {
			for _, q := range n.Eqs {
				holds(t, q.Rhs)
				if q.Rhs.Right() {
					rights++
				}
			}
		}
	}
	if rights < 500 {
		t.Errorf("only %d expressions are right", rights)
	}
}

// holds tells whether depth, size and walk of an expression fit together.
func holds(t *testing.T, e ast.Expr) {
	t.Helper()
	below, size, walk := 0, 1, []ast.Expr{e}
	for _, kid := range e.Kids {
		below = max(below, kid.Depth())
		size += kid.Size()
		walk = slices.AppendSeq(walk, kid.Walk())
	}
	if e.Depth() != 1+below || e.Size() != size {
		t.Errorf("P3.1: %s: depth %d, size %d", short(e), e.Depth(), e.Size())
	}
	if !slices.EqualFunc(slices.Collect(e.Walk()), walk, ast.Expr.Same) {
		t.Errorf("P3.2: %s: the walk is not it and its Kids' walks", short(e))
	}
}

func TestManyLevels(t *testing.T) {
	const levels = 1 << 16
	for where, put := range over {
		e, o := deep(levels, num(1), put), deep(levels, num(2), put)
		if e.Depth() != levels || e.Size() != 1+(levels-1)*(put(num(0)).Size()-1) {
			t.Errorf("R1: %s: depth %d, size %d", where, e.Depth(), e.Size())
		}
		if e.Right() || !e.Same(e) || e.Same(o) {
			t.Errorf("R1: %s: right, or the same as another one", where)
		}
		n := 0
		for range e.Walk() {
			if n++; n == levels {
				break
			}
		}
		if n != levels {
			t.Errorf("R1: %s: a walk of %d", where, n)
		}
		f := ast.Node{Name: "f", Outs: variables(1), Eqs: []ast.Equation{{Lhs: []string{"v"}, Rhs: e}}}
		p := ast.Program{Nodes: []ast.Node{f}}
		if f.Right() || p.Right() || !p.Same(p) {
			t.Errorf("R1: %s: a program of it", where)
		}
	}
}

// TestEndless asks of an expression that is its own Kid: that it is deeper
// than it may be is soon seen, and a walk through it may be stopped.
func TestEndless(t *testing.T) {
	e := bin(ast.Add, num(1), num(2))
	e.Kids[0], e.Kids[1] = e, e
	if e.Right() {
		t.Error("R1: an expression that has itself is right")
	}
	n := 0
	for range e.Walk() {
		if n++; n == 1000 {
			break
		}
	}
	if n != 1000 {
		t.Errorf("R1: a walk of %d", n)
	}
}

func TestNothingIsKept(t *testing.T) {
	p := with(func(*ast.Node) {})
	first := told(p)
	told(with(faults["an operand of one"]))
	p.Nodes[1].Eqs[0].Rhs.Kids[0].Name = "if"
	if p.Right() || p.Nodes[1].Right() || p.Nodes[1].Eqs[0].Rhs.Right() {
		t.Error("R6: what was right ahead of a change is right behind it")
	}
	if told(with(func(*ast.Node) {})) != first {
		t.Error("R6: what is answered hangs on what was asked ahead of it")
	}
}
