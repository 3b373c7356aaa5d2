package check_test

import (
	"reflect"
	"slices"
	"strings"
	"testing"

	"shuttlecock/api"
	"shuttlecock/ast"
	"shuttlecock/check"
)

func allOf(s string) []string { return strings.Fields(s) }

// TestWhateverComes holds what is answered of any programs against the second
// reading.
func TestWhateverComes(t *testing.T) {
	count := map[api.Errno]int{}
	for seed := range uint64(10000) {
		p, kept := anyProgram(seed), anyProgram(seed)
		want := fault{-1, api.ErrArg}
		if p.Right() {
			want = reads(p)
		}
		count[want.e]++
		x, e := check.Check(p)
		at, again := check.Where(p)
		if e != want.e || again != want.e || at != want.node || (x == nil) != (e != api.OK) {
			t.Fatalf("P7.1: seed %d: %d, and %d at %d, not %d at %d: %v", seed, e, again, at, want.e, want.node, p)
		}
		if e == api.OK {
			first := everything(t, x, p)
			ruin(p)
			if everything(t, x, kept) != first {
				t.Fatalf("R4: seed %d: what was handed in is kept", seed)
			}
			p = anyProgram(seed)
			if y, _ := check.Check(p); everything(t, y, p) != first {
				t.Fatalf("R6: seed %d: asked twice, and not answered likewise", seed)
			}
		}
		if !reflect.DeepEqual(p, kept) {
			t.Fatalf("R4: seed %d: what is handed in is changed", seed)
		}
	}
	for _, e := range []api.Errno{api.OK, api.ErrName, api.ErrType, api.ErrArity, api.ErrCycle, api.ErrDefine, api.ErrArg} {
		if count[e] < 200 {
			t.Errorf("only %d of the error %d", count[e], e)
		}
	}
}

// ruin changes all of a program.
func ruin(p ast.Program) {
	for i := range p.Nodes {
		n := &p.Nodes[i]
		for _, list := range [][]ast.Variable{n.Ins, n.Outs, n.Locals} {
			for j := range list {
				list[j] = ast.Variable{Name: "other", Type: 1 - list[j].Type}
			}
		}
		for j := range n.Eqs {
			n.Eqs[j].Lhs[0] = "other"
			n.Eqs[j].Rhs = ast.Expr{}
		}
		*n = ast.Node{Name: "other"}
	}
}

// everything is all that is answered of a program that is sound, as words; it
// is held against the second reading.
func everything(t *testing.T, x *check.Types, p ast.Program) string {
	t.Helper()
	var all strings.Builder
	if got := x.Order(); !slices.Equal(got, order(p)) {
		t.Fatalf("P7.2: Order: %v, not %v: %v", got, order(p), p)
	}
	for i, n := range p.Nodes {
		if j, is := x.Find(n.Name); j != i || !is {
			t.Fatalf("P7.2: Find(%q): %d, %t", n.Name, j, is)
		}
		for _, name := range allOf("a b c d e f g h n0 n1 n2 n3 n4") {
			kind, is := x.Of(i, name)
			if want := variable(n, name); is != (want != "") || is && "ib"[kind:kind+1] != want || !is && kind != 0 {
				t.Fatalf("P7.2: Of(%d, %q): %d, %t, not %q", i, name, kind, is, want)
			}
		}
		// Of its expressions, and, as they mostly have errors there, of all others.
		for _, o := range p.Nodes {
			for _, q := range o.Eqs {
				for e := range q.Rhs.Walk() {
					l, errno := x.Results(i, e)
					want, why := readsExpr(p, i, e)
					if errno != why || told(l, errno) != told(kinds(want), why) {
						t.Fatalf("P7.2: Results(%d): %v, %d, not %q, %d: %v", i, l, errno, want, why, e)
					}
					all.WriteString(told(l, errno) + ", ")
				}
			}
		}
	}
	return all.String()
}

// kinds are the types of letters.
func kinds(s string) []int {
	var all []int
	for _, c := range s {
		all = append(all, map[rune]int{'i': 0, 'b': 1}[c])
	}
	return all
}

// TestAnswersShareNothing changes answers, and asks again.
func TestAnswersShareNothing(t *testing.T) {
	p := program(t, around)
	x, _ := check.Check(p)
	for range 2 {
		l := x.Order()
		if want := []int{0, 1, 2, 3, 4, 5}; !slices.Equal(l, want) {
			t.Fatalf("R4: Order: %v", l)
		}
		l[0], l[5] = 7, -7
		for _, s := range []string{"1", "b", "i + 1", "not c", "one(1)"} {
			e := expr(t, s)
			first, _ := x.Results(inside, e)
			want := slices.Clone(first)
			first[0] = 7
			if l, errno := x.Results(inside, e); errno != api.OK || !slices.Equal(l, want) {
				t.Fatalf("R4: %s: %v, and then %v", s, want, l)
			}
		}
		two, _ := x.Results(inside, expr(t, "two(b, 1)"))
		_ = append(two, 9)
		three, _ := x.Results(inside, expr(t, "three(1, 2, 3)"))
		if told(two, api.OK) != "bool int" || told(three, api.OK) != "int int int" {
			t.Fatalf("R4: %v, %v", two, three)
		}
		two[0], two[1], three[0], three[2] = 5, 5, 5, 5
	}
	y, _ := check.Check(p)
	if got := everything(t, y, p); got != everything(t, x, p) {
		t.Fatalf("R4: %s", got)
	}
}

func TestNilAndEmpty(t *testing.T) {
	for _, p := range []ast.Program{{}, {Nodes: []ast.Node{}}} {
		answers(t, "no nodes", p, -1, api.OK)
		if x, _ := check.Check(p); len(x.Order()) != 0 {
			t.Errorf("P7.2: %v", x.Order())
		}
	}
	p, q := program(t, around), program(t, around)
	for i := range q.Nodes {
		n := &q.Nodes[i]
		n.Ins, n.Locals = append([]ast.Variable{}, n.Ins...), append([]ast.Variable{}, n.Locals...)
		for j := range n.Eqs {
			n.Eqs[j].Rhs.Kids = append([]ast.Expr{}, n.Eqs[j].Rhs.Kids...)
		}
	}
	x, _ := check.Check(p)
	y, e := check.Check(q)
	if e != api.OK || everything(t, x, p) != everything(t, y, q) {
		t.Errorf("R3: %d", e)
	}
	for _, kids := range [][]ast.Expr{nil, {}} {
		if l, errno := x.Results(inside, ast.Expr{Kind: ast.Call, Name: "none", Kids: kids}); told(l, errno) != "int" {
			t.Errorf("R3: %v, %d", l, errno)
		}
	}
}

// TestTypesOfNothing asks what no call has made.
func TestTypesOfNothing(t *testing.T) {
	var x check.Types
	if kind, is := x.Of(0, "a"); kind != 0 || is {
		t.Errorf("R1: Of: %d, %t", kind, is)
	}
	if i, is := x.Find("a"); i != 0 || is {
		t.Errorf("R1: Find: %d, %t", i, is)
	}
	if l, e := x.Results(0, ast.Expr{}); l != nil || e != api.ErrArg {
		t.Errorf("R1: Results: %v, %d", l, e)
	}
	if l := x.Order(); len(l) != 0 {
		t.Errorf("R1: Order: %v", l)
	}
}

// TestEndless asks of an expression that is its own Kid, and of one that is
// much deeper than it may be.
func TestEndless(t *testing.T) {
	own := ast.Expr{Kind: ast.Bin, Op: ast.Add, Kids: make([]ast.Expr, 2)}
	own.Kids[0], own.Kids[1] = own, own
	deep := ast.Expr{}
	for range 1 << 16 {
		deep = ast.Expr{Kind: ast.Un, Kids: []ast.Expr{deep}}
	}
	x, _ := check.Check(program(t, around))
	for _, e := range []ast.Expr{own, deep} {
		p := program(t, fine("f")+fine("f"))
		p.Nodes[1].Eqs[0].Rhs = e
		answers(t, "endless", p, -1, api.ErrArg)
		if l, errno := x.Results(inside, e); l != nil || errno != api.ErrArg {
			t.Errorf("R1: %v, %d", l, errno)
		}
	}
}

func TestNothingIsKept(t *testing.T) {
	p := program(t, around)
	x, _ := check.Check(p)
	first := everything(t, x, p)
	for seed := range uint64(300) {
		check.Check(anyProgram(seed))
		check.Where(anyProgram(seed))
		for _, s := range []string{"x", "1 + true", "two(b, 1)", "one()", "-two(b, 1)"} {
			x.Results(int(seed%8)-1, expr(t, s))
		}
	}
	if everything(t, x, p) != first {
		t.Error("R6: what is answered hangs on what was asked ahead of it")
	}
	answers(t, "around", p, -1, api.OK)
}
