package check_test

import (
	"strings"
	"testing"

	"shuttlecock/api"
	"shuttlecock/ast"
	"shuttlecock/check"
)

// around is a program of whose last node the variables are i and j, ints, and
// b and c, bools; ahead of it, and behind it, are nodes that it may call.
const around = `
node none() returns (y: int); let y = 1; tel
node one(a: int) returns (y: bool); let y = a = 1; tel
node two(a: bool; b: int) returns (y: bool; z: int); let y = a; z = b; tel
node three(a, b, c: int) returns (x, y, z: int); let x = a; y = b; z = c; tel
node f(i: int; b: bool) returns (j: int); var c: bool; let j = i; c = b; tel
node behind(a: int) returns (y: int); let y = a; tel
`

// inside is the number of the node f in it.
const inside = 4

// told is what is answered of an expression, as words.
func told(l []int, e api.Errno) string {
	if e != api.OK {
		if l != nil {
			return "an error, and something beside it"
		}
		return map[api.Errno]string{api.ErrName: "ErrName", api.ErrType: "ErrType", api.ErrArity: "ErrArity", api.ErrArg: "ErrArg"}[e]
	}
	var all []string
	for _, kind := range l {
		all = append(all, []string{"int", "bool"}[kind])
	}
	return strings.Join(all, " ")
}

// tells holds the results of expressions in f against what is asked.
func tells(t *testing.T, want map[string]string) {
	t.Helper()
	x, e := check.Check(program(t, around))
	if e != api.OK {
		t.Fatalf("P7.1: %d", e)
	}
	for s, w := range want {
		if got := told(x.Results(inside, expr(t, s))); got != w {
			t.Errorf("P7.2: %s: %s, not %s", s, got, w)
		}
		p := program(t, strings.Replace(around, "j = i", "j = "+s, 1))
		switch {
		case w != "int":
			answers(t, s, p, inside, asInt[w])
		case strings.Contains(s, "f("):
			answers(t, s, p, inside, api.ErrCycle)
		default:
			answers(t, s, p, -1, api.OK)
		}
	}
}

// asInt are the errors of equations with one int on the left, by what is told
// of the right.
var asInt = map[string]api.Errno{
	"ErrName": api.ErrName, "ErrType": api.ErrType, "ErrArity": api.ErrArity, "bool": api.ErrType, "bool int": api.ErrArity, "int int int": api.ErrArity,
}

func TestPlain(t *testing.T) {
	tells(t, map[string]string{
		"0": "int", "7": "int", "false": "bool", "true": "bool", "i": "int", "j": "int", "b": "bool", "c": "bool",
		"x": "ErrName", "a": "ErrName", "f": "ErrName", "none": "ErrName", "I": "ErrName",
		"none()": "int", "one(1)": "bool", "two(b, 1)": "bool int", "three(1, i, j)": "int int int", "f(1, b)": "int", "behind(1)": "int",
	})
}

// TestOps asks of each op of operands of all types.
func TestOps(t *testing.T) {
	want := map[string]string{}
	sees := func(s, kids, sure string) {
		want[s] = "ErrType"
		for _, one := range strings.Fields(sure) {
			if from, to, _ := strings.Cut(one, ">"); from == kids {
				want[s] = map[string]string{"i": "int", "b": "bool"}[to]
			}
		}
	}
	for _, x := range "ib" {
		for op, sure := range map[string]string{"-": "i>i", "not": "b>b", "pre": "i>i b>b"} {
			sees(op+" "+string(x), string(x), sure)
		}
		for _, y := range "ib" {
			for op, sure := range map[string]string{
				"->": "ii>i bb>b", "=>": "bb>b", "or": "bb>b", "xor": "bb>b", "and": "bb>b", "=": "ii>b bb>b", "<>": "ii>b bb>b",
				"<": "ii>b", "<=": "ii>b", ">": "ii>b", ">=": "ii>b", "+": "ii>i", "-": "ii>i", "*": "ii>i", "div": "ii>i", "mod": "ii>i",
			} {
				sees(string(x)+" "+op+" "+string(y), string(x)+string(y), sure)
			}
			for _, z := range "ib" {
				sees("if "+string(x)+" then "+string(y)+" else "+string(z), string(x)+string(y)+string(z), "bii>i bbb>b")
			}
		}
	}
	if len(want) != 2*3+4*16+8 {
		t.Fatalf("%d are asked", len(want))
	}
	tells(t, want)
}

func TestCalls(t *testing.T) {
	tells(t, map[string]string{
		"nope()": "ErrName", "nope(1)": "ErrName", "i(1)": "ErrName", "y()": "ErrName",
		"none(1)": "ErrArity", "one()": "ErrArity", "one(1, 2)": "ErrArity", "two(b)": "ErrArity", "two(b, 1, 2)": "ErrArity", "f(1)": "ErrArity",
		"one(b)": "ErrType", "two(1, b)": "ErrType", "two(b, b)": "ErrType", "two(1, 1)": "ErrType", "three(1, 2, b)": "ErrType", "f(b, 1)": "ErrType", "behind(true)": "ErrType",
		"one(b, b)": "ErrArity", "two(1)": "ErrArity", "three(b, 1)": "ErrArity", // as many, ahead of their types
		"behind(behind(none()))": "int", "if one(1) then none() else behind(i)": "int", "not one(none())": "bool", "f(none(), one(2))": "int",
	})
}

func TestOperandsHaveOneResult(t *testing.T) {
	tells(t, map[string]string{
		"-two(b, 1)": "ErrArity", "not two(b, 1)": "ErrArity", "pre two(b, 1)": "ErrArity", "two(b, 1) + 1": "ErrArity", "1 + two(b, 1)": "ErrArity",
		"two(b, 1) -> two(b, 1)": "ErrArity", "two(b, 1) = two(b, 1)": "ErrArity", "if two(b, 1) then 1 else 2": "ErrArity",
		"if b then two(b, 1) else two(b, 1)": "ErrArity", "if b then 1 else two(b, 1)": "ErrArity",
		"two(two(b, 1))": "ErrArity", "one(two(b, 1))": "ErrArity", "three(three(1, 2, 3))": "ErrArity", "three(1, 2, three(1, 2, 3))": "ErrArity",
	})
}

// TestWhatIsAskedFirst: the Kids, in order, each with how many results it has,
// and then the expression itself.
func TestWhatIsAskedFirst(t *testing.T) {
	tells(t, map[string]string{
		"x + (1 + b)": "ErrName", "(1 + b) + x": "ErrType", "x + two(b, 1)": "ErrName", "two(b, 1) + x": "ErrArity",
		"(1 + b) + two(b, 1)": "ErrType", "two(b, 1) + (1 + b)": "ErrArity", "b + x": "ErrName", "b + two(b, 1)": "ErrArity",
		"not (1 + x)": "ErrName", "not -b": "ErrType", "pre x": "ErrName",
		"if 1 then x else 2": "ErrName", "if 1 then 2 else x": "ErrName", "if 1 then two(b, 1) else x": "ErrArity", "if x then two(b, 1) else 1 + b": "ErrName",
		"if b then 1 + b else x": "ErrType", "if 1 then 2 else two(b, 1)": "ErrArity", "if two(b, 1) then x else 1": "ErrArity",
		"nope(1 + b)": "ErrType", "nope(two(b, 1))": "ErrArity", "nope(x, 1 + b)": "ErrName", "nope(1 + b, x)": "ErrType", "nope(none(1))": "ErrArity",
		"none(x)": "ErrName", "none(1 + b)": "ErrType", "none(two(b, 1))": "ErrArity", "none(nope())": "ErrName", "one(b, x)": "ErrName", "one(b, 1 + b)": "ErrType",
		"one(two(b, 1), x)": "ErrArity", "one(x, two(b, 1))": "ErrName", "one(one(b), x)": "ErrType", "one(one(), x)": "ErrArity",
	})
}

// TestCallsOfTwins: a call is of the first node of a name, which also counts
// where the second one is not sound, as it stands further on.
func TestCallsOfTwins(t *testing.T) {
	first := "node g(a: int) returns (b: int); let b = a; tel "
	second := "node g(a: bool) returns (b, c: bool); let b = a; c = a; tel "
	f := "node f() returns (b: int); let b = "
	for _, a := range []asked{
		{f + "g(1); tel " + first + second, 2, api.ErrName},
		{f + "g(true); tel " + first + second, 0, api.ErrType},
		{f + "g(true, 1); tel " + first + second, 0, api.ErrArity},
		{f + "g(1); tel " + second + first, 0, api.ErrType},
		{f + "g(true); tel " + second + first, 0, api.ErrArity},
		{first + f + "g(1); tel " + second, 2, api.ErrName},
		{first + f + "g(true); tel " + second, 1, api.ErrType},
		{first + second + f + "g(1); tel ", 1, api.ErrName},
		{"node f() returns (b: int); let b = f(); tel node f() returns (b: bool); let b = true; tel", 1, api.ErrName},
	} {
		a.holds(t, "")
	}
}

func TestResultsOfWhatCannotBe(t *testing.T) {
	x, _ := check.Check(program(t, around))
	good, unknown := expr(t, "i + 1"), expr(t, "nope(x) + true")
	for _, node := range []int{-1 << 63, -2, -1, 6, 7, 1 << 62} {
		for _, e := range []ast.Expr{good, unknown} {
			if l, errno := x.Results(node, e); l != nil || errno != api.ErrArg {
				t.Errorf("P7.2: node %d: %v, %d", node, l, errno)
			}
		}
	}
	deep := good
	for range 199 {
		deep = ast.Expr{Kind: ast.Un, Kids: []ast.Expr{deep}}
	}
	wrongs := []ast.Expr{
		{Kind: -1}, {Kind: 7}, {N: -1}, {Kind: ast.Bool, N: 2}, {Kind: ast.Var}, {Kind: ast.Var, Name: "pre"}, {Kind: ast.Un}, {Kind: ast.Bin, Kids: []ast.Expr{good}},
		{Kind: ast.If}, {Kind: ast.Call}, {Kind: ast.Un, Op: 3, Kids: []ast.Expr{good}}, {Kind: ast.Bin, Op: 16, Kids: []ast.Expr{good, good}},
		{Kind: ast.Bin, Op: -1, Kids: []ast.Expr{good, good}}, deep, {Kind: ast.Call, Name: "f", Kids: make([]ast.Expr, 1001)},
	}
	for i, e := range wrongs {
		around := []ast.Expr{
			e, {Kind: ast.Un, Kids: []ast.Expr{e}}, {Kind: ast.Bin, Kids: []ast.Expr{unknown, e}}, {Kind: ast.Call, Name: "nope", Kids: []ast.Expr{unknown, e}},
		}
		for _, o := range around {
			if l, errno := x.Results(inside, o); l != nil || errno != api.ErrArg {
				t.Errorf("P7.2: %d: %v, %d", i, l, errno)
			}
		}
	}
	if l, errno := x.Results(inside, deep.Kids[0]); told(l, errno) != "int" {
		t.Errorf("P7.2: 200 deep: %v, %d", l, errno)
	}
}
