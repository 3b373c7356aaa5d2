package check_test

import (
	"math"
	"slices"
	"strconv"
	"strings"
	"testing"

	"shuttlecock/api"
	"shuttlecock/ast"
	"shuttlecock/check"
)

func TestOf(t *testing.T) {
	x, _ := check.Check(program(t, `
node f(a: int; b: bool) returns (c: bool; d: int); var e: int; g: bool; let c = b; d = a; e = a; g = c; tel
node g(a: bool; h: int) returns (b: int); let b = h; tel`))
	want := []map[string]int{{"a": 0, "b": 1, "c": 1, "d": 0, "e": 0, "g": 1}, {"a": 1, "h": 0, "b": 0}}
	for _, node := range []int{math.MinInt, -2, -1, 0, 1, 2, 3, math.MaxInt} {
		for _, name := range strings.Split("a b c d e f g h i A int let pre  a1", " ") {
			kind, is := 0, false
			if node == 0 || node == 1 {
				kind, is = want[node][name]
			}
			if got, known := x.Of(node, name); got != kind || known != is {
				t.Errorf("P7.2: Of(%d, %q): %d, %t", node, name, got, known)
			}
		}
	}
}

func TestFind(t *testing.T) {
	x, _ := check.Check(program(t, fine("f")+fine("g")+fine("a2")+"node h(x: int) returns (y: int); let y = g(x); tel"))
	for name, want := range map[string]int{"f": 0, "g": 1, "a2": 2, "h": 3, "": -1, "x": -1, "a": -1, "F": -1, "node": -1, "a22": -1} {
		if got, is := x.Find(name); is != (want >= 0) || got != max(want, 0) {
			t.Errorf("P7.2: Find(%q): %d, %t", name, got, is)
		}
	}
}

// calling is a program of nodes n0, n1, and so on, each of which calls others.
func calling(on [][]int) ast.Program {
	var p ast.Program
	for i, others := range on {
		n := ast.Node{Name: "n" + strconv.Itoa(i), Outs: []ast.Variable{{Name: "y"}}}
		n.Eqs = append(n.Eqs, ast.Equation{Lhs: []string{"y"}, Rhs: ast.Expr{N: 1}})
		for k, j := range others {
			local := "l" + strconv.Itoa(k)
			n.Locals = append(n.Locals, ast.Variable{Name: local})
			n.Eqs = append(n.Eqs, ast.Equation{Lhs: []string{local}, Rhs: ast.Expr{Kind: ast.Call, Name: "n" + strconv.Itoa(j)}})
		}
		p.Nodes = append(p.Nodes, n)
	}
	return p
}

func TestOrder(t *testing.T) {
	for _, o := range []struct{ on, want []string }{
		{nil, nil},
		{[]string{""}, []string{"0"}},
		{[]string{"", ""}, []string{"0", "1"}},
		{[]string{"1", ""}, []string{"1", "0"}},
		{[]string{"", "0", "1"}, []string{"0", "1", "2"}},
		{[]string{"1", "2", ""}, []string{"2", "1", "0"}},
		{[]string{"3", "", "", ""}, []string{"1", "2", "3", "0"}},
		{[]string{"1", "", "0", ""}, []string{"1", "0", "2", "3"}},
		{[]string{"2", "2", "3 3 3", "", "0 1"}, []string{"3", "2", "0", "1", "4"}},
		{[]string{"4", "3", "", "", "1 2"}, []string{"2", "3", "1", "4", "0"}},
	} {
		var on [][]int
		for _, s := range o.on {
			var others []int
			for _, x := range strings.Fields(s) {
				j, _ := strconv.Atoi(x)
				others = append(others, j)
			}
			on = append(on, others)
		}
		x, e := check.Check(calling(on))
		if e != api.OK {
			t.Fatalf("P7.1: %v: %d", on, e)
		}
		var got []string
		for _, i := range x.Order() {
			got = append(got, strconv.Itoa(i))
		}
		if !slices.Equal(got, o.want) {
			t.Errorf("P7.2: Order of %v: %v, not %v", on, got, o.want)
		}
	}
}

// TestManyNodes asks of as many nodes as there may be: of those that call all
// others behind them, of a chain, and of a ring.
func TestManyNodes(t *testing.T) {
	const many = 1000
	chain, all := make([][]int, many), make([][]int, many)
	rising := make([]int, many)
	for i := range many {
		rising[i] = i
		if i+1 < many {
			chain[i] = []int{i + 1}
		}
		for j := i + 1; j < min(i+150, many); j++ {
			all[i] = append(all[i], j)
		}
	}
	falling := slices.Clone(rising)
	slices.Reverse(falling)
	for _, on := range [][][]int{chain, all} {
		if x, e := check.Check(calling(on)); e != api.OK || !slices.Equal(x.Order(), falling) {
			t.Errorf("P7.2: %d", e)
		}
		for _, back := range []int{0, 1, many / 2, many - 1} {
			on[many-1] = []int{back}
			answers(t, "a ring", calling(on), back, api.ErrCycle)
		}
	}
	if x, e := check.Check(calling(make([][]int, many))); e != api.OK || !slices.Equal(x.Order(), rising) {
		t.Errorf("P7.2: %d", e)
	}
	answers(t, "one too many", calling(make([][]int, many+1)), -1, api.ErrArg)
}

// long is a node whose lists have n entries: Ins, Outs, Locals, equations,
// and what a call is given.
func long(n int) ast.Node {
	f := ast.Node{Name: "long"}
	e := ast.Expr{Kind: ast.Call, Name: "long"}
	left := []string{}
	for i := range n {
		s := strconv.Itoa(i)
		f.Ins = append(f.Ins, ast.Variable{Name: "i" + s, Type: i % 2})
		f.Outs = append(f.Outs, ast.Variable{Name: "o" + s, Type: i % 2})
		f.Locals = append(f.Locals, ast.Variable{Name: "l" + s, Type: i % 2})
		e.Kids = append(e.Kids, ast.Expr{Kind: ast.Var, Name: "i" + s})
		left = append(left, "o"+s)
		f.Eqs = append(f.Eqs, ast.Equation{Lhs: []string{"l" + s}, Rhs: ast.Expr{Kind: ast.Var, Name: "o" + s}})
	}
	f.Eqs[0] = ast.Equation{Lhs: left, Rhs: e}
	return f
}

func TestLongLists(t *testing.T) {
	p := ast.Program{Nodes: []ast.Node{long(1000)}}
	answers(t, "long lists", p, 0, api.ErrDefine) // l0
	p.Nodes[0].Locals = p.Nodes[0].Locals[1:]
	answers(t, "long lists", p, 0, api.ErrCycle)
	call := &p.Nodes[0].Eqs[0].Rhs
	call.Kids[999].Name = "i0"
	answers(t, "long lists", p, 0, api.ErrType)
	call.Kids = call.Kids[:999]
	answers(t, "long lists", p, 0, api.ErrArity)
	call.Name = "other"
	answers(t, "long lists", p, 0, api.ErrName)
	answers(t, "long lists", ast.Program{Nodes: []ast.Node{long(1001)}}, -1, api.ErrArg)
}
