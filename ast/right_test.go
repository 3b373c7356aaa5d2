package ast_test

import (
	"math"
	"slices"
	"strconv"
	"strings"
	"testing"

	"shuttlecock/ast"
)

func TestExprRight(t *testing.T) {
	all, _ := sample()
	one := vars(1)
	for i, e := range []ast.Expr{
		{}, all,
		num(0), num(1), num(math.MaxInt64), truth(0), truth(1),
		of("x"), of("_"), of(strings.Repeat("x", 60)), of("Pre"),
		un(ast.Neg, one[0]), un(ast.Not, one[0]), un(ast.Pre, one[0]),
		bin(ast.Arrow, one[0], one[0]), bin(ast.Eq, one[0], one[0]), bin(ast.Mod, one[0], one[0]),
		choice(one[0], one[0], one[0]),
		call("f"), call("_", one[0]), call(strings.Repeat("x", 60), vars(2)...), call("f", vars(999)...), call("f", vars(1000)...),
		{Kind: ast.Int, Kids: []ast.Expr{}}, {Kind: ast.Call, Name: "f", Kids: []ast.Expr{}},
		// What it means is not asked.
		bin(ast.Add, truth(1), num(1)), un(ast.Not, num(1)), choice(num(1), truth(1), num(2)), call("f", call("f", call("f"))),
	} {
		if !e.Right() {
			t.Errorf("P3.1: %d: %s is not right", i, short(e))
		}
	}
}

func TestExprNotRight(t *testing.T) {
	one := vars(1)
	for what, e := range map[string]ast.Expr{
		"a kind below all":               {Kind: -1},
		"a kind above all":               {Kind: 7},
		"the least kind of an int":       {Kind: math.MinInt},
		"the greatest kind of an int":    {Kind: math.MaxInt},
		"an int below 0":                 num(-1),
		"the least int":                  num(math.MinInt64),
		"an int with an op":              {Kind: ast.Int, Op: 1},
		"an int with a name":             {Kind: ast.Int, Name: "x"},
		"an int with a Kid":              {Kind: ast.Int, Kids: one},
		"a bool of 2":                    truth(2),
		"a bool of -1":                   truth(-1),
		"a bool with an op":              {Kind: ast.Bool, N: 1, Op: 1},
		"a bool with a name":             {Kind: ast.Bool, N: 1, Name: "x"},
		"a bool with a Kid":              {Kind: ast.Bool, N: 1, Kids: one},
		"a variable without a name":      of(""),
		"a variable of a word":           of("tel"),
		"a variable of 61 bytes":         of(strings.Repeat("x", 61)),
		"a variable with a digit first":  of("1x"),
		"a variable with an op":          {Kind: ast.Var, Name: "x", Op: 1},
		"a variable with a number":       {Kind: ast.Var, Name: "x", N: 1},
		"a variable with a Kid":          {Kind: ast.Var, Name: "x", Kids: one},
		"one op, below all":              un(-1, one[0]),
		"one op, above all":              un(3, one[0]),
		"one op, with a number":          {Kind: ast.Un, N: 1, Kids: one},
		"one op, with a name":            {Kind: ast.Un, Name: "x", Kids: one},
		"one op of none":                 {Kind: ast.Un},
		"one op of two":                  {Kind: ast.Un, Kids: vars(2)},
		"two's op, below all":            bin(-1, one[0], one[0]),
		"two's op, above all":            bin(16, one[0], one[0]),
		"two's op, with a number":        {Kind: ast.Bin, N: -1, Kids: vars(2)},
		"two's op, with a name":          {Kind: ast.Bin, Name: "x", Kids: vars(2)},
		"two's op of none":               {Kind: ast.Bin},
		"two's op of one":                {Kind: ast.Bin, Kids: one},
		"two's op of three":              {Kind: ast.Bin, Kids: vars(3)},
		"an if with an op":               {Kind: ast.If, Op: 1, Kids: vars(3)},
		"an if with a number":            {Kind: ast.If, N: 1, Kids: vars(3)},
		"an if with a name":              {Kind: ast.If, Name: "x", Kids: vars(3)},
		"an if of none":                  {Kind: ast.If},
		"an if of two":                   {Kind: ast.If, Kids: vars(2)},
		"an if of four":                  {Kind: ast.If, Kids: vars(4)},
		"a call without a name":          call("", one[0]),
		"a call of a word":               call("pre", one[0]),
		"a call of 61 bytes":             call(strings.Repeat("x", 61)),
		"a call with an op":              {Kind: ast.Call, Name: "f", Op: 1},
		"a call with a number":           {Kind: ast.Call, Name: "f", N: 1},
		"a call of 1001":                 call("f", vars(1001)...),
		"a call of 70000":                call("f", make([]ast.Expr, 70000)...),
		"an int's op of the least one":   {Op: math.MinInt},
		"two's op of the greatest one":   {Kind: ast.Bin, Op: math.MaxInt, Kids: vars(2)},
		"a variable with the least N":    {Kind: ast.Var, Name: "x", N: math.MinInt64},
		"a bool of the greatest one":     truth(math.MaxInt64),
		"a name with bytes of no letter": of("x-y"),
	} {
		if e.Right() {
			t.Errorf("P3.1: %s is right", what)
		}
		for where, put := range over {
			if put(e).Right() || put(put(e)).Right() {
				t.Errorf("P3.1: %s, %s, is right", what, where)
			}
		}
	}
}

// plain is what the document says of an expression whose Kids are right.
func plain(e ast.Expr) bool {
	switch e.Kind {
	case 0:
		return e.Op == 0 && e.N >= 0 && e.Name == "" && len(e.Kids) == 0
	case 1:
		return e.Op == 0 && (e.N == 0 || e.N == 1) && e.Name == "" && len(e.Kids) == 0
	case 2:
		return e.Op == 0 && e.N == 0 && e.Name == "x" && len(e.Kids) == 0
	case 3:
		return e.Op >= 0 && e.Op <= 2 && e.N == 0 && e.Name == "" && len(e.Kids) == 1
	case 4:
		return e.Op >= 0 && e.Op <= 15 && e.N == 0 && e.Name == "" && len(e.Kids) == 2
	case 5:
		return e.Op == 0 && e.N == 0 && e.Name == "" && len(e.Kids) == 3
	case 6:
		return e.Op == 0 && e.N == 0 && e.Name == "x"
	}
	return false
}

func TestEachKindWithEachField(t *testing.T) {
	rights := 0
	for kind := -2; kind < 10; kind++ {
		for op := -2; op < 19; op++ {
			for _, n := range []int64{math.MinInt64, -1, 0, 1, 2, math.MaxInt64} {
				for _, name := range []string{"", "x", "if", "1"} {
					for kids := range 6 {
						e := ast.Expr{Kind: kind, Op: op, N: n, Name: name, Kids: vars(kids)}
						if e.Right() != plain(e) {
							t.Errorf("P3.1: kind %d, op %d, %d, %q, %d Kids: %t", kind, op, n, name, kids, e.Right())
						}
						if plain(e) {
							rights++
						}
					}
				}
			}
		}
	}
	if want := 4 + 2 + 1 + 3 + 16 + 1 + 6; rights != want {
		t.Errorf("%d are right, not %d", rights, want)
	}
}

func TestDepthOfWhatIsRight(t *testing.T) {
	for where, put := range over {
		for depth, want := range map[int]bool{1: true, 199: true, 200: true, 201: false, 202: false, 400: false} {
			for _, leaf := range []ast.Expr{num(0), truth(1), of("x"), call("f")} {
				if deep(depth, leaf, put).Right() != want {
					t.Errorf("P3.1: %s, %d deep: %t", where, depth, !want)
				}
			}
		}
		if deep(200, num(-1), put).Right() || deep(200, call("if"), put).Right() {
			t.Errorf("P3.1: %s: what is wrong at the bottom of 200 is not seen", where)
		}
	}
}

// variables are n variables, all of one name: that is not asked.
func variables(n int) []ast.Variable {
	return slices.Repeat([]ast.Variable{{Name: "v", Type: 1}}, n)
}

// places has for each place of a program that has a list a way to put one of
// n entries there, and the most that may be there.
var places = map[string]func(n int) ast.Program{
	"nodes":  func(n int) ast.Program { return ast.Program{Nodes: slices.Repeat([]ast.Node{small()}, n)} },
	"ins":    func(n int) ast.Program { return with(func(f *ast.Node) { f.Ins = variables(n) }) },
	"outs":   func(n int) ast.Program { return with(func(f *ast.Node) { f.Outs = variables(n) }) },
	"locals": func(n int) ast.Program { return with(func(f *ast.Node) { f.Locals = variables(n) }) },
	"equations": func(n int) ast.Program {
		return with(func(f *ast.Node) { f.Eqs = slices.Repeat(small().Eqs[:1], n) })
	},
	"left": func(n int) ast.Program {
		return with(func(f *ast.Node) { f.Eqs[1].Lhs = slices.Repeat([]string{"v"}, n) })
	},
	"operands": func(n int) ast.Program {
		return with(func(f *ast.Node) { f.Eqs[0].Rhs.Kids[1] = call("g", vars(n)...) })
	},
}

// small is a node with all that a node may have. Each one is made anew.
func small() ast.Node {
	return ast.Node{
		Name:   "f",
		Ins:    []ast.Variable{{Name: "a"}, {Name: "b", Type: 1}},
		Outs:   []ast.Variable{{Name: "c"}, {Name: "d", Type: 1}},
		Locals: []ast.Variable{{Name: "e", Type: 1}, {Name: "g"}},
		Eqs: []ast.Equation{
			{Lhs: []string{"c"}, Rhs: bin(ast.Arrow, of("a"), un(ast.Pre, num(3)))},
			{Lhs: []string{"d", "e", "g"}, Rhs: call("h", truth(1), of("b"))},
		},
	}
}

// with is a program of three nodes, of which the middle one is changed.
func with(change func(f *ast.Node)) ast.Program {
	p := ast.Program{Nodes: []ast.Node{small(), small(), small()}}
	change(&p.Nodes[1])
	return p
}

// right tells whether a program is right, and holds it against its nodes.
func right(t *testing.T, what string, p ast.Program) bool {
	t.Helper()
	all := len(p.Nodes) <= 1000
	for _, n := range p.Nodes {
		if !n.Right() {
			all = false
		}
		for _, q := range n.Eqs {
			if !q.Rhs.Right() && n.Right() {
				t.Errorf("P3.1: %s: a node is right whose equation is not", what)
			}
		}
	}
	if p.Right() != all {
		t.Errorf("P3.1: %s: a program is %t, its nodes %t", what, p.Right(), all)
	}
	return p.Right()
}

func TestLists(t *testing.T) {
	for where, put := range places {
		for n, want := range map[int]bool{2: true, 999: true, 1000: true, 1001: false, 1002: false, 2000: false} {
			if right(t, where, put(n)) != want {
				t.Errorf("P3.1: %d %s: %t", n, where, !want)
			}
		}
		if want := where != "outs" && where != "left"; right(t, where, put(0)) != want {
			t.Errorf("P3.1: no %s: %t", where, !want)
		}
		if !right(t, where, put(1)) {
			t.Errorf("P3.1: one of %s", where)
		}
	}
}

func TestProgramRight(t *testing.T) {
	least := ast.Node{Name: "f", Outs: []ast.Variable{{Name: "x"}}}
	for i, p := range []ast.Program{
		{}, {Nodes: []ast.Node{}},
		{Nodes: []ast.Node{least}}, {Nodes: []ast.Node{least, least}},
		with(func(*ast.Node) {}),
		with(func(f *ast.Node) { f.Ins, f.Locals, f.Eqs = nil, nil, nil }),
		with(func(f *ast.Node) { f.Ins, f.Locals, f.Eqs = []ast.Variable{}, []ast.Variable{}, []ast.Equation{} }),
		with(func(f *ast.Node) { f.Ins, f.Outs = f.Locals, f.Locals }),
		with(func(f *ast.Node) { f.Eqs[0].Lhs = []string{"nowhere", "nowhere"} }),
		with(func(f *ast.Node) { f.Name = strings.Repeat("_", 60) }),
	} {
		if !right(t, strconv.Itoa(i), p) {
			t.Errorf("P3.1: %d is not right", i)
		}
	}
}

// faults are changes of a node that make it one that is not right.
var faults = map[string]func(f *ast.Node){
	"a node without a name":           func(f *ast.Node) { f.Name = "" },
	"a node of a word":                func(f *ast.Node) { f.Name = "node" },
	"a node of 61 bytes":              func(f *ast.Node) { f.Name = strings.Repeat("x", 61) },
	"a node without Outs":             func(f *ast.Node) { f.Outs = nil },
	"a node with empty Outs":          func(f *ast.Node) { f.Outs = []ast.Variable{} },
	"the first In's name":             func(f *ast.Node) { f.Ins[0].Name = "" },
	"the last In's name":              func(f *ast.Node) { f.Ins[1].Name = "int" },
	"the first Out's name":            func(f *ast.Node) { f.Outs[0].Name = "1" },
	"the last Out's name":             func(f *ast.Node) { f.Outs[1].Name = "a b" },
	"the first Local's name":          func(f *ast.Node) { f.Locals[0].Name = "var" },
	"the last Local's name":           func(f *ast.Node) { f.Locals[1].Name = "é" },
	"the first In's Type below 0":     func(f *ast.Node) { f.Ins[0].Type = -1 },
	"the last In's Type above 1":      func(f *ast.Node) { f.Ins[1].Type = 2 },
	"the first Out's Type below 0":    func(f *ast.Node) { f.Outs[0].Type = -1 },
	"the last Out's Type above 1":     func(f *ast.Node) { f.Outs[1].Type = 2 },
	"the first Local's Type above 1":  func(f *ast.Node) { f.Locals[0].Type = 2 },
	"the last Local's Type below 0":   func(f *ast.Node) { f.Locals[1].Type = -1 },
	"a Type of the greatest one":      func(f *ast.Node) { f.Ins[0].Type = math.MaxInt },
	"a Type of the least one":         func(f *ast.Node) { f.Ins[0].Type = math.MinInt },
	"an equation without names":       func(f *ast.Node) { f.Eqs[0].Lhs = nil },
	"an equation with an empty list":  func(f *ast.Node) { f.Eqs[1].Lhs = []string{} },
	"an equation of nothing":          func(f *ast.Node) { f.Eqs = append(f.Eqs, ast.Equation{}) },
	"the first name on the left":      func(f *ast.Node) { f.Eqs[1].Lhs[0] = "" },
	"the last name on the left":       func(f *ast.Node) { f.Eqs[1].Lhs[2] = "tel" },
	"the first equation's expression": func(f *ast.Node) { f.Eqs[0].Rhs = num(-1) },
	"the last equation's expression":  func(f *ast.Node) { f.Eqs[1].Rhs = of("") },
	"an operand of one":               func(f *ast.Node) { f.Eqs[0].Rhs.Kids[1].Kids[0].N = -3 },
	"one that is 201 deep":            func(f *ast.Node) { f.Eqs[0].Rhs = deep(201, num(1), over["un"]) },
}

func TestProgramNotRight(t *testing.T) {
	for what, change := range faults {
		f := small()
		change(&f)
		if f.Right() {
			t.Errorf("P3.1: %s: a node is right", what)
		}
		for i := range 3 {
			p := with(func(*ast.Node) {})
			change(&p.Nodes[i])
			if right(t, what, p) {
				t.Errorf("P3.1: %s: a program is right", what)
			}
		}
	}
}
