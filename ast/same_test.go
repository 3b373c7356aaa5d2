package ast_test

import (
	"math"
	"strings"
	"testing"

	"shuttlecock/ast"
)

// others are expressions each of which differs from the first of its row in
// one thing alone.
func others() [][]ast.Expr {
	a, b := of("a"), of("b")
	return [][]ast.Expr{
		{{}, {Kind: 1}, {Kind: -1}, {Op: 1}, {N: 1}, {N: math.MinInt64}, {Name: "x"}, {Kids: vars(1)}, {Kids: []ast.Expr{{}}}},
		{num(5), num(6), num(-5), {Kind: ast.Bool, N: 5}, {N: 5, Op: 1}, {N: 5, Name: "a"}},
		{a, b, of("A"), of("ab"), of(""), call("a")},
		{un(ast.Neg, a), un(ast.Not, a), un(ast.Pre, a), un(ast.Neg, b), {Kind: ast.Un}, {Kind: ast.Un, Kids: []ast.Expr{a, a}}, {Kind: ast.Bin, Kids: []ast.Expr{a}}},
		{bin(ast.Add, a, b), bin(ast.Sub, a, b), bin(ast.Add, b, a), bin(ast.Add, a, a), bin(ast.Add, b, b), {Kind: ast.Call, Op: ast.Add, Kids: []ast.Expr{a, b}}},
		{choice(a, a, a), choice(b, a, a), choice(a, b, a), choice(a, a, b), {Kind: ast.If, Kids: []ast.Expr{a, a}}},
		{call("f", a, b), call("g", a, b), call("f", b, a), call("f", a), call("f", b), call("f"), call("f", a, b, a), call("f", a, b, b)},
		{bin(ast.Or, bin(ast.Or, a, b), a), bin(ast.Or, a, bin(ast.Or, b, a))},
		{deep(200, a, over["un"]), deep(200, b, over["un"]), deep(199, a, over["un"]), deep(201, a, over["un"])},
	}
}

func TestSameExpr(t *testing.T) {
	again := others()
	for r, row := range others() {
		for i, x := range row {
			if !x.Same(x) || !x.Same(again[r][i]) || !again[r][i].Same(x) {
				t.Errorf("P3.1: row %d: %d is not the same as it is", r, i)
			}
			if i > 0 && (x.Same(row[0]) || row[0].Same(x)) {
				t.Errorf("P3.1: row %d: %d is the same as the first one", r, i)
			}
			for where, put := range over {
				if !put(x).Same(put(again[r][i])) {
					t.Errorf("P3.1: row %d, %d, %s: not the same", r, i, where)
				}
				if i > 0 && put(x).Same(put(row[0])) {
					t.Errorf("P3.1: row %d, %d, %s: the same", r, i, where)
				}
			}
		}
	}
}

func TestSameOfNilAndEmpty(t *testing.T) {
	for _, kind := range []int{-1, ast.Int, ast.Bool, ast.Var, ast.Un, ast.Bin, ast.If, ast.Call, 7} {
		x, y := ast.Expr{Kind: kind}, ast.Expr{Kind: kind, Kids: []ast.Expr{}}
		if !x.Same(y) || !y.Same(x) || x.Right() != y.Right() || x.Depth() != y.Depth() || x.Size() != y.Size() {
			t.Errorf("R3: Kids that are nil, and empty, of the kind %d", kind)
		}
	}
	none, empty := ast.Program{}, ast.Program{Nodes: []ast.Node{}}
	if !none.Same(empty) || !empty.Same(none) || none.Right() != empty.Right() {
		t.Error("R3: Nodes that are nil, and empty")
	}
	for where, change := range map[string][2]func(f *ast.Node){
		"Ins":    {func(f *ast.Node) { f.Ins = nil }, func(f *ast.Node) { f.Ins = []ast.Variable{} }},
		"Outs":   {func(f *ast.Node) { f.Outs = nil }, func(f *ast.Node) { f.Outs = []ast.Variable{} }},
		"Locals": {func(f *ast.Node) { f.Locals = nil }, func(f *ast.Node) { f.Locals = []ast.Variable{} }},
		"Eqs":    {func(f *ast.Node) { f.Eqs = nil }, func(f *ast.Node) { f.Eqs = []ast.Equation{} }},
		"Lhs":    {func(f *ast.Node) { f.Eqs[0].Lhs = nil }, func(f *ast.Node) { f.Eqs[0].Lhs = []string{} }},
		"Kids":   {func(f *ast.Node) { f.Eqs[0].Rhs.Kids = nil }, func(f *ast.Node) { f.Eqs[0].Rhs.Kids = []ast.Expr{} }},
	} {
		p, q := with(change[0]), with(change[1])
		if !p.Same(q) || !q.Same(p) || p.Right() != q.Right() || p.Nodes[1].Right() != q.Nodes[1].Right() {
			t.Errorf("R3: %s that are nil, and empty", where)
		}
	}
}

// differences are changes of one thing alone of a node.
var differences = map[string]func(f *ast.Node){
	"the node's name":          func(f *ast.Node) { f.Name = "F" },
	"an In's name":             func(f *ast.Node) { f.Ins[1].Name = "x" },
	"an In's Type":             func(f *ast.Node) { f.Ins[1].Type = 0 },
	"an In more":               func(f *ast.Node) { f.Ins = append(f.Ins, f.Ins[1]) },
	"an In less":               func(f *ast.Node) { f.Ins = f.Ins[:1] },
	"the Ins' order":           func(f *ast.Node) { f.Ins[0], f.Ins[1] = f.Ins[1], f.Ins[0] },
	"no Ins":                   func(f *ast.Node) { f.Ins = nil },
	"an Out's name":            func(f *ast.Node) { f.Outs[0].Name = "x" },
	"an Out's Type":            func(f *ast.Node) { f.Outs[0].Type = 1 },
	"an Out more":              func(f *ast.Node) { f.Outs = append(f.Outs, f.Outs[1]) },
	"an Out less":              func(f *ast.Node) { f.Outs = f.Outs[1:] },
	"the Outs' order":          func(f *ast.Node) { f.Outs[0], f.Outs[1] = f.Outs[1], f.Outs[0] },
	"no Outs":                  func(f *ast.Node) { f.Outs = nil },
	"a Local's name":           func(f *ast.Node) { f.Locals[1].Name = "x" },
	"a Local's Type":           func(f *ast.Node) { f.Locals[1].Type = 7 },
	"a Local more":             func(f *ast.Node) { f.Locals = append(f.Locals, f.Locals[0]) },
	"a Local less":             func(f *ast.Node) { f.Locals = f.Locals[:1] },
	"the Locals' order":        func(f *ast.Node) { f.Locals[0], f.Locals[1] = f.Locals[1], f.Locals[0] },
	"no Locals":                func(f *ast.Node) { f.Locals = nil },
	"Ins and Outs":             func(f *ast.Node) { f.Ins, f.Outs = f.Outs, f.Ins },
	"Outs and Locals":          func(f *ast.Node) { f.Outs, f.Locals = f.Locals, f.Outs },
	"an equation more":         func(f *ast.Node) { f.Eqs = append(f.Eqs, f.Eqs[0]) },
	"an equation less":         func(f *ast.Node) { f.Eqs = f.Eqs[:1] },
	"the equations' order":     func(f *ast.Node) { f.Eqs[0], f.Eqs[1] = f.Eqs[1], f.Eqs[0] },
	"no equations":             func(f *ast.Node) { f.Eqs = nil },
	"a name on the left":       func(f *ast.Node) { f.Eqs[1].Lhs[2] = "x" },
	"a name more on the left":  func(f *ast.Node) { f.Eqs[0].Lhs = append(f.Eqs[0].Lhs, "c") },
	"a name less on the left":  func(f *ast.Node) { f.Eqs[1].Lhs = f.Eqs[1].Lhs[:2] },
	"the order on the left":    func(f *ast.Node) { f.Eqs[1].Lhs[0], f.Eqs[1].Lhs[1] = "e", "d" },
	"no names on the left":     func(f *ast.Node) { f.Eqs[1].Lhs = nil },
	"an expression's kind":     func(f *ast.Node) { f.Eqs[1].Rhs.Kids[0].Kind = ast.Int },
	"an expression's op":       func(f *ast.Node) { f.Eqs[0].Rhs.Op = ast.Mod },
	"an expression's number":   func(f *ast.Node) { f.Eqs[0].Rhs.Kids[1].Kids[0].N = 4 },
	"an expression's name":     func(f *ast.Node) { f.Eqs[0].Rhs.Kids[0].Name = "b" },
	"an expression's Kid more": func(f *ast.Node) { f.Eqs[1].Rhs.Kids = append(f.Eqs[1].Rhs.Kids, num(1)) },
	"an expression's Kid less": func(f *ast.Node) { f.Eqs[1].Rhs.Kids = f.Eqs[1].Rhs.Kids[:1] },
	"the Kids' order":          func(f *ast.Node) { k := f.Eqs[1].Rhs.Kids; k[0], k[1] = k[1], k[0] },
	"a name with a byte more":  func(f *ast.Node) { f.Name += "\x00" },
	"a name of another length": func(f *ast.Node) { f.Name = strings.Repeat("f", 70000) },
}

func TestSameProgram(t *testing.T) {
	p := with(func(*ast.Node) {})
	if !p.Same(p) || !p.Same(with(func(*ast.Node) {})) {
		t.Error("P3.1: a program is not the same as it is")
	}
	for what, change := range differences {
		for i := range 3 {
			q := with(func(*ast.Node) {})
			change(&q.Nodes[i])
			if p.Same(q) || q.Same(p) {
				t.Errorf("P3.1: %s of the node %d: the same", what, i)
			}
			r := with(func(*ast.Node) {})
			change(&r.Nodes[i])
			if !q.Same(r) || !q.Same(q) {
				t.Errorf("P3.1: %s of the node %d: not the same as it is", what, i)
			}
		}
	}
	other := small()
	other.Name = "g"
	one, two := ast.Program{Nodes: []ast.Node{small(), other}}, ast.Program{Nodes: []ast.Node{other, small()}}
	for i, q := range []ast.Program{{}, {Nodes: p.Nodes[:2]}, {Nodes: p.Nodes[1:]}, {Nodes: append(p.Nodes[:3:3], small())}} {
		if p.Same(q) || q.Same(p) {
			t.Errorf("P3.1: %d: the same", i)
		}
	}
	if one.Same(two) || !one.Same(one) {
		t.Error("P3.1: the nodes' order")
	}
}
