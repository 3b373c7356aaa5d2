package sem_test

import (
	"strconv"
	"strings"
	"testing"

	"shuttlecock/api"
	"shuttlecock/ast"
	"shuttlecock/sem"
)

// trace is that of instants, which are parted by `|`; `-` is one without
// values.
func trace(s string) [][]sem.Value {
	if s == "" {
		return nil
	}
	var all [][]sem.Value
	for _, l := range strings.Split(s, "|") {
		all = append(all, values(strings.TrimSuffix(strings.TrimSpace(l), "-")))
	}
	return all
}

// told is a trace, as above.
func told(all [][]sem.Value) string {
	var out []string
	for _, l := range all {
		var words []string
		for _, v := range l {
			words = append(words, word(v))
		}
		out = append(out, strings.Join(words, " "))
	}
	return strings.Join(out, " | ")
}

// aside are nodes that the programs of the tests call.
const aside = `
node sum(a: int) returns (b: int); let b = a -> pre b + a; tel
node count() returns (n: int); let n = 0 -> pre n + 1; tel
node late(a: int) returns (b: int); let b = pre a; tel
node both(a, b: int) returns (c, d: int); let d = a - b; c = a + b; tel
node three(a: int; b: bool) returns (c: bool; d: int; e: bool); let e = pre b; c = b; d = sum(a); tel
node is(a: bool) returns (b: bool); let b = a; tel
`

// node is the node f with these variables and equations, beside those above.
func node(t *testing.T, s string) ast.Program {
	t.Helper()
	return program(t, "node f"+s+" tel"+aside)
}

func TestRun(t *testing.T) {
	for _, c := range []struct{ node, in, out string }{
		// What comes in goes out.
		{"(a: int) returns (b: int); let b = a;", "5 | 7 | -1", "5 | 7 | -1"},
		{"(a: bool) returns (b: bool); let b = a;", "true | false | true", "true | false | true"},
		{"(a: int; b: bool; c: int) returns (d: bool; e, f: int); let e = c; f = a; d = b;", "1 true 2 | 3 false 4", "true 2 1 | false 4 3"},
		{"() returns (a: int; b: bool); let b = true; a = 7;", "- | -", "7 true | 7 true"},
		{"(a: int) returns (b, c: int); let c = a; b = c;", "5 | 6", "5 5 | 6 6"},
		{"(a: int) returns (b: int); var c, d: int; let b = c + 1; d = a * 2; c = d + 1;", "5 | 6", "12 | 14"},

		// pre
		{"(a: int) returns (b: int); let b = pre a;", "5 | 6 | 7", "nil | 5 | 6"},
		{"(a: int) returns (b: int); let b = pre pre a;", "5 | 6 | 7 | 8", "nil | nil | 5 | 6"},
		{"(a: int) returns (b: int); let b = pre pre pre a;", "5 | 6 | 7 | 8 | 9", "nil | nil | nil | 5 | 6"},
		{"(a: int) returns (b: int); let b = pre (a + pre a);", "5 | 6 | 7 | 8", "nil | nil | 11 | 13"},
		{"(a: int) returns (b: int); let b = pre (1 -> a);", "5 | 6 | 7", "nil | 1 | 6"},
		{"(a: bool) returns (b: bool); let b = pre not a;", "true | false | true", "nil | false | true"},
		{"() returns (b: int); let b = pre 7;", "- | - | -", "nil | 7 | 7"},
		{"() returns (b: int); let b = pre b;", "- | - | -", "nil | nil | nil"},
		{"() returns (b: int); let b = pre b + 1;", "- | - | -", "nil | nil | nil"},
		{"() returns (b: int); let b = 0 -> pre b + 1;", "- | - | - | -", "0 | 1 | 2 | 3"},
		{"(a: int) returns (b: int); let b = a -> pre b + 1;", "5 | 0 | 0", "5 | 6 | 7"},
		{"() returns (b: int); let b = 1 -> 1 -> pre b + pre pre b;", "- | - | -", "1 | nil | nil"},
		{"() returns (b: int); let b = 1 -> pre (1 -> b + pre b);", "- | - | - | - | - | -", "1 | 1 | 2 | 3 | 5 | 8"},
		{"() returns (b, c: int); let b = 0 -> pre c; c = 1 -> pre (b + c);", "- | - | - | - | - | -", "0 1 | 1 1 | 1 2 | 2 3 | 3 5 | 5 8"},
		{"() returns (b: int); var c: int; let c = pre b; b = 1 -> c * 2;", "- | - | -", "1 | 2 | 4"},
		{"(a: int) returns (b, c: int); let b = pre c; c = a;", "5 | 6 | 7", "nil 5 | 5 6 | 6 7"},
		{"(a: int) returns (b, c: int); let c = pre (a + 1); b = pre (a + 1);", "5 | 6 | 7", "nil nil | 6 6 | 7 7"},
		{"(a: int) returns (b: int); let b = (a div 0) -> pre (a div (a - 6));", "5 | 6 | 7 | 8", "err | -5 | err | 7"},

		// ->
		{"(a: int) returns (b: int); let b = 1 -> a;", "5 | 6 | 7", "1 | 6 | 7"},
		{"(a: int) returns (b: int); let b = a -> 1;", "5 | 6 | 7", "5 | 1 | 1"},
		{"(a: int) returns (b: int); let b = 1 -> 2 -> a;", "5 | 6 | 7", "1 | 6 | 7"},
		{"(a: int) returns (b: int); let b = (1 -> 2) -> a;", "5 | 6 | 7", "1 | 6 | 7"},
		{"(a: int) returns (b: int); let b = (a -> 2) + (3 -> 4);", "5 | 6 | 7", "8 | 6 | 6"},
		{"(a: int) returns (b: int); let b = a div 0 -> 1;", "5 | 6", "err | 1"},
		{"(a: int) returns (b: int); let b = 1 -> a div 0;", "5 | 6", "1 | err"},
		{"(a: int) returns (b: int); let b = pre a -> a;", "5 | 6", "nil | 6"},
		{"(a: int) returns (b: int); let b = 1 -> pre pre a;", "5 | 6 | 7", "1 | nil | 5"},
		{"(a: bool) returns (b: bool); let b = true -> a;", "false | false | true", "true | false | true"},

		// if
		{"(c: bool) returns (b: int); let b = if c then 1 else 2;", "true | false | true", "1 | 2 | 1"},
		{"(a: int; c: bool) returns (b: int); let b = if c then a div 0 else 1;", "5 false | 5 true", "1 | err"},
		{"(a: int; c: bool) returns (b: int); let b = if c then 1 else a mod 0;", "5 false | 5 true", "err | 1"},
		{"(a: int; c: bool) returns (b: int); let b = if c then pre a else 1;", "5 true | 6 true | 7 false", "nil | 5 | 1"},
		{"(a: int) returns (b: int); let b = if a div 0 = 1 then 1 else 2;", "5", "err"},
		{"(c: bool) returns (b: int); let b = if pre c then 1 else 2;", "true | false | true", "nil | 1 | 2"},
		{"(a: int) returns (b: bool); let b = if a > 0 then a < 9 else a < -9;", "5 | 9 | -9 | -10", "true | false | false | true"},

		// What is not chosen has its past, too.
		{"(c: bool) returns (b: int); let b = if c then count() else 100 -> count();", "false | true | false | true | true", "100 | 1 | 2 | 3 | 4"},
		{"(a: int; c: bool) returns (b: int); let b = if c then pre a else -1;", "5 false | 6 false | 7 true", "-1 | -1 | 6"},
		{"(a: int) returns (b: int); let b = 0 -> sum(a);", "5 | 6 | 7", "0 | 11 | 18"},
		{"(a: int) returns (b: int); let b = sum(a) -> pre sum(a);", "5 | 6 | 7", "5 | 5 | 11"},
		{"(c: bool) returns (b: int); let b = if pre c then count() else count();", "true | true | false", "nil | 1 | 2"},

		// The ops.
		{"(a, b: int) returns (c, d, e, f, g: int); let c = a + b; d = a - b; e = a * b; f = a div b; g = a mod b;", "7 2 | -7 2 | 1 0", "9 5 14 3 1 | -5 -9 -14 -3 -1 | 1 1 0 err err"},
		{"(a, b: int) returns (c, d, e, f, g, h: bool); let c = a = b; d = a <> b; e = a < b; f = a <= b; g = a > b; h = a >= b;", "1 2 | 2 2 | 3 2", "false true true true false false | true false false true false true | false true false false true true"},
		{"(a, b: bool) returns (c, d, e, f, g, h, i: bool); let c = a = b; d = a <> b; e = a and b; f = a or b; g = a xor b; h = a => b; i = not a;", "true true | true false | false true | false false",
			"true false true true false true false | false true false true true false false | false true false true true true true | true false false false false true true"},
		{"(a: int) returns (b, c, d: int); let b = -a; c = - -a; d = 9223372036854775807 + a;", "1 | -9223372036854775808", "-1 1 -9223372036854775808 | -9223372036854775808 -9223372036854775808 -1"},
		{"(a: bool) returns (b, c: bool); let b = pre a or true; c = pre a and 1 div 0 = 1;", "true | false", "nil err | true err"},

		// Calls, each with its own past.
		{"(a: int) returns (b: int); let b = sum(a);", "5 | 6 | 7", "5 | 11 | 18"},
		{"(a: int) returns (b: int); let b = sum(a) * 100 + sum(1);", "5 | 6 | 7", "501 | 1102 | 1803"},
		{"(a: int) returns (b: int); let b = sum(sum(a));", "1 | 1 | 1 | 1", "1 | 3 | 6 | 10"},
		{"(a: int) returns (b: int); let b = late(late(a));", "5 | 6 | 7 | 8", "nil | nil | 5 | 6"},
		{"(a: int) returns (b, c: int); let b = late(a); c = late(b + 1);", "5 | 6 | 7 | 8", "nil nil | 5 nil | 6 6 | 7 7"},
		{"(a: int) returns (b: int); let b = sum(pre a);", "5 | 6 | 7", "nil | nil | nil"},
		{"(a: int) returns (b: int); let b = sum(0 -> pre a);", "5 | 6 | 7", "0 | 5 | 11"},
		{"(a: int) returns (b: int); let b = pre sum(a);", "5 | 6 | 7", "nil | 5 | 11"},
		{"(a: int) returns (b: int); let b = pre sum(0 -> pre sum(a));", "5 | 6 | 7 | 8", "nil | 0 | 5 | 16"},
		{"() returns (b: int); let b = 1 -> pre sum(b);", "- | - | - | - | -", "1 | 1 | 2 | 4 | 8"},
		{"(a: int) returns (b: int); let b = late(a div (a - 6));", "5 | 6 | 7", "nil | -5 | err"},
		{"(a: int) returns (b: bool); let b = is(late(a) > 5);", "5 | 6 | 7", "nil | false | true"},
		{"() returns (b: int); let b = count() + count() * 10;", "- | - | -", "0 | 11 | 22"},

		// Calls with several results.
		{"(a, b: int) returns (c, d: int); let (c, d) = both(a, b);", "5 3 | 1 2", "8 2 | 3 -1"},
		{"(a, b: int) returns (c, d: int); let (d, c) = both(a, b);", "5 3 | 1 2", "2 8 | -1 3"},
		{"(a, b: int) returns (c, d: int); let (c, d) = both(b, a);", "5 3 | 1 2", "8 -2 | 3 1"},
		{"(a: int) returns (c, d, e, f: int); let (c, d) = both(e, f); (e, f) = both(sum(a), 1);", "5 | 1", "10 2 6 4 | 12 2 7 5"},
		{"(a: int) returns (c, d, e, f: int); let (c, d) = both(a, 0 -> pre f); (e, f) = both(c, d);", "5 | 1", "5 5 10 0 | 1 1 2 0"},
		{"(a: int; b: bool) returns (c: bool; d: int; e: bool); let (c, d, e) = three(a, b);", "5 true | 6 false | 7 true", "true 5 nil | false 11 true | true 18 false"},
		{"(a: int; b: bool) returns (d: int); var c, e: bool; let (e, d, c) = three(a, b);", "5 true | 6 false | 7 true", "5 | 11 | 18"},

		// No instants.
		{"(a: int) returns (b: int); let b = a;", "", ""},
		{"() returns (b: int); let b = 1;", "", ""},
	} {
		out, e := sem.Run(node(t, c.node), "f", trace(c.in))
		if got := told(out); got != c.out || e != api.OK {
			t.Errorf("P9.2: %s of %s: %s, %d, not %s", c.node, c.in, got, e, c.out)
		}
	}
}

// TestNodesOfOneProgram runs each of them, in whatever order they stand.
func TestNodesOfOneProgram(t *testing.T) {
	p := program(t, "node top(a: int) returns (b: int); let b = mid(a) + low(a); tel "+
		"node low(a: int) returns (b: int); let b = a -> pre a; tel node mid(a: int) returns (b: int); let b = low(a * 10) + low(low(a)); tel")
	for name, want := range map[string]string{"top": "60 | 60 | 71", "low": "5 | 5 | 6", "mid": "55 | 55 | 65"} {
		out, e := sem.Run(p, name, trace("5 | 6 | 7"))
		if got := told(out); got != want || e != api.OK {
			t.Errorf("P9.2: %s: %s, %d, not %s", name, got, e, want)
		}
	}
}

// TestDeep runs an expression that is as deep as it may be.
func TestDeep(t *testing.T) {
	p := node(t, "(a: int) returns (b: int); let b = "+strings.Repeat("pre ", 199)+"a;")
	ins := make([][]sem.Value, 1000)
	for i := range ins {
		ins[i] = []sem.Value{sem.Of(int64(i))}
	}
	out, e := sem.Run(p, "f", ins)
	if e != api.OK || len(out) != 1000 {
		t.Fatalf("P9.2: %d of 1000, %d", len(out), e)
	}
	for i, l := range out {
		want := "nil"
		if i >= 199 {
			want = strconv.Itoa(i - 199)
		}
		if got := told([][]sem.Value{l}); got != want {
			t.Fatalf("P9.2: at %d: %s, not %s", i, got, want)
		}
	}
}

// times is a text, as often as told.
func times(n int, s string) string { return strings.Repeat(s, n) }

// heavy is a program whose node f has that weight: it calls ninety, which has
// 99, as often as may be, and for what is left leaf, which has 1.
func heavy(weight int) string {
	return "node f() returns (a: int); let a = 0" + times((weight-1)/99, " + ninety()") + times((weight-1)%99, " + leaf()") +
		"; tel node leaf() returns (a: int); let a = 1; tel node ninety() returns (a: int); let a = 0" + times(98, " + leaf()") + "; tel"
}

func TestWeight(t *testing.T) {
	for s, want := range map[string]int{
		"() returns (b: int); let b = 1;": 1, "(a: int) returns (b: int); let b = a + pre b;": 1, "(a: int) returns (b: int); let b = sum(a);": 2,
		"(a: int) returns (b: int); let b = sum(a) + sum(a);": 3, "(a: int) returns (b: int); let b = sum(sum(sum(a)));": 4, "(a: int) returns (b, c: int); let b = sum(a); c = count();": 3,
		"(a: int) returns (b: int); let b = pre sum(pre late(a));": 3, "(a: int) returns (b: int); let b = if is(a = 1) then late(count()) else count();": 5, "(a: int) returns (b: int); let b = late(a) -> late(a);": 3,
		"(a: int) returns (b: bool; c: int; d: bool); let (b, c, d) = three(a, true);": 3, "(a: int) returns (b, c: int); let (b, c) = both(sum(a), -sum(a));": 4,
		"(a: int) returns (b: int); let b = 1" + times(50, "+ sum(a)") + ";": 51,
	} {
		if got, e := sem.Weight(node(t, s), "f"); got != want || e != api.OK {
			t.Errorf("P9.2: Weight: %s: %d, %d, not %d", s, got, e, want)
		}
	}
	p := node(t, "(a: int) returns (b: int); let b = sum(a) + late(a);")
	for name, want := range map[string]int{"f": 3, "sum": 1, "count": 1, "three": 2} {
		if got, e := sem.Weight(p, name); got != want || e != api.OK {
			t.Errorf("P9.2: Weight: %s: %d, %d, not %d", name, got, e, want)
		}
	}
}

// TestGreatWeight asks for weights about the greatest one that is told, which
// is the first that is not run.
func TestGreatWeight(t *testing.T) {
	for _, n := range []int{1, 2, 99, 100, 101, 5000, 9999, 10000, 10001, 10002, 10099, 10100} {
		p := program(t, heavy(n))
		if got, e := sem.Weight(p, "f"); got != min(n, 10001) || e != api.OK {
			t.Errorf("P9.2: Weight: %d, %d, not %d", got, e, min(n, 10001))
		}
		out, e := sem.Run(p, "f", trace("- | -"))
		sum := strconv.Itoa((n-1)/99*98 + (n-1)%99)
		if n <= 10000 && (e != api.OK || told(out) != sum+" | "+sum) || n > 10000 && (e != api.ErrRange || out != nil) {
			t.Errorf("P9.2: of the weight %d: %s, %d", n, told(out), e)
		}
		if out, e := sem.Run(p, "ninety", trace("-")); e != api.OK || told(out) != "98" {
			t.Errorf("P9.2: beside the weight %d: %s, %d", n, told(out), e)
		}
	}
	s := "node n0() returns (a: int); let a = 1; tel"
	for i := range 200 {
		before := "n" + strconv.Itoa(i) + "()"
		s += " node n" + strconv.Itoa(i+1) + "() returns (a: int); let a = " + before + " + " + before + "; tel"
	}
	p, want := program(t, s), 1
	for i := range 201 {
		name := "n" + strconv.Itoa(i)
		if got, e := sem.Weight(p, name); got != want || e != api.OK {
			t.Fatalf("P9.2: Weight: %s: %d, %d, not %d", name, got, e, want)
		}
		want = min(2*want+1, 10001)
	}
	if out, e := sem.Run(p, "n200", nil); out != nil || e != api.ErrRange {
		t.Errorf("P9.2: %v, %d", out, e)
	}
}

// TestMuch runs as much as may be run.
func TestMuch(t *testing.T) {
	p := program(t, strings.ReplaceAll(heavy(10000), "let a = 1;", "let a = 1 -> pre a + 1;"))
	out, e := sem.Run(p, "f", make([][]sem.Value, 1000))
	if e != api.OK || len(out) != 1000 {
		t.Fatalf("P9.2: %d of 1000, %d", len(out), e)
	}
	for i, l := range out {
		if len(l) != 1 || l[0] != sem.Of(int64(9898*(i+1))) {
			t.Fatalf("P9.2: at %d: %v", i, l)
		}
	}
	if out, e := sem.Run(p, "f", make([][]sem.Value, 1001)); e != api.ErrRange || out != nil {
		t.Errorf("P9.2: of 1001 instants: %d, %d", len(out), e)
	}
}

// wrongs are programs of which nothing is told, by their errors.
func wrongs(t *testing.T) map[api.Errno]ast.Program {
	all := map[api.Errno]ast.Program{
		api.ErrName:   node(t, "(a: int) returns (b: int); let b = c;"),
		api.ErrType:   node(t, "(a: int) returns (b: int); let b = true;"),
		api.ErrArity:  node(t, "(a: int) returns (b: int); let b = sum();"),
		api.ErrDefine: node(t, "(a: int) returns (b: int); let"),
		api.ErrCycle:  node(t, "(a: int) returns (b: int); let b = b + 1;"),
		api.ErrArg:    node(t, "(a: int) returns (b: int); let b = a;"),
	}
	all[api.ErrArg].Nodes[0].Eqs[0].Rhs = ast.Expr{N: -1}
	return all
}

// answers tells whether of a node of a program these errors are answered, of
// its weight and of a run.
func answers(t *testing.T, what string, p ast.Program, name string, ins [][]sem.Value, weight, run api.Errno) {
	t.Helper()
	if n, e := sem.Weight(p, name); e != weight || (n == 0) != (e != api.OK) {
		t.Errorf("P9.2: %.300q: Weight: %d, %d, not %d", what, n, e, weight)
	}
	out, e := sem.Run(p, name, ins)
	if e != run || e != api.OK && out != nil || e == api.OK && len(out) != len(ins) {
		t.Errorf("P9.2: %.300q: %.300s, %d, not %d", what, told(out), e, run)
	}
}

func TestWrongPrograms(t *testing.T) {
	for want, p := range wrongs(t) {
		what := strconv.Itoa(int(want))
		for _, name := range []string{"f", "sum", "none", "", "if"} {
			// Whatever else is wrong.
			for _, ins := range [][][]sem.Value{nil, trace("5"), trace("5 | true | 5 5"), make([][]sem.Value, 1001)} {
				answers(t, what, p, name, ins, want, want)
			}
		}
	}
	// A circle of two, in a node that is not run; a node that calls itself.
	answers(t, "a circle", node(t, "(a: int) returns (b: int); let b = a; tel node g() returns (b, c: int); let b = c; c = b + 1;"), "f", trace("5"), api.ErrCycle, api.ErrCycle)
	answers(t, "itself", node(t, "(a: int) returns (b: int); let b = a -> pre f(a);"), "sum", trace("5"), api.ErrCycle, api.ErrCycle)
	answers(t, "no nodes", ast.Program{}, "f", nil, api.ErrName, api.ErrName)
	answers(t, "no nodes", ast.Program{}, "", trace("5"), api.ErrName, api.ErrName)
}

func TestNoSuchNode(t *testing.T) {
	p := node(t, "(a: int) returns (b: int); let b = a;")
	for _, name := range []string{"", "g", "F", "f ", "a", "b", "node", "ff", times(1<<16, "f"), "\xff", "f\x00"} {
		for _, ins := range [][][]sem.Value{nil, trace("5"), trace("true"), trace("5 5"), make([][]sem.Value, 1001)} {
			answers(t, name, p, name, ins, api.ErrName, api.ErrName)
		}
	}
}

func TestWrongInstants(t *testing.T) {
	const two = "(a: int; b: bool) returns (c: int); let c = if b then a else 0;"
	for _, c := range []struct {
		node, in string
		want     api.Errno
	}{
		{two, "", api.OK}, {two, "5 true", api.OK}, {two, "5 true | 6 false", api.OK}, {"() returns (c: int); let c = 1;", "-", api.OK},

		{two, "-", api.ErrArity}, {two, "5", api.ErrArity}, {two, "5 true 5", api.ErrArity}, {two, "5 true true", api.ErrArity}, {two, "5 true | -", api.ErrArity}, {two, "5 true | 5 true | 6", api.ErrArity},
		{"() returns (c: int); let c = 1;", "5", api.ErrArity}, {"() returns (c: int); let c = 1;", "- | - | true", api.ErrArity}, {"() returns (c: int); let c = 1;", "nil", api.ErrArity},

		{two, "true 5", api.ErrType}, {two, "5 5", api.ErrType}, {two, "true true", api.ErrType}, {two, "5 0", api.ErrType}, {two, "5 true | 1 1", api.ErrType}, {two, "5 true | 6 true | false true", api.ErrType},

		// nil and err are of no type.
		{two, "nil true", api.ErrType}, {two, "5 nil", api.ErrType}, {two, "err true", api.ErrType}, {two, "5 err", api.ErrType}, {two, "5 true | 5 nil", api.ErrType},

		// What is wrong at an instant that is ahead comes first, and of one instant how many there are.
		{two, "true | 5 5", api.ErrArity}, {two, "5 5 | 5", api.ErrType}, {two, "5 true | 5 5 | true", api.ErrType}, {two, "5 true | true | 5 5", api.ErrArity}, {two, "5 5 5", api.ErrArity}, {two, "nil", api.ErrArity},
	} {
		answers(t, c.node+" of "+c.in, node(t, c.node), "f", trace(c.in), api.OK, c.want)
	}
	for _, v := range noValues {
		for _, s := range []string{"(a: int) returns (b: int); let b = a;", "(a: bool) returns (b: bool); let b = a;"} {
			answers(t, s+" of "+word(v), node(t, s), "f", [][]sem.Value{{v}}, api.OK, api.ErrType)
		}
	}
}

// TestTooMany asks for too many instants, or for too much weight, of which
// also other things are wrong.
func TestTooMany(t *testing.T) {
	const one = "(a: int) returns (b: int); let b = a;"
	for v, want := range map[string]api.Errno{"5": api.OK, "true": api.ErrType, "nil": api.ErrType, "5 5": api.ErrArity, "-": api.ErrArity} {
		for n, want := range map[int]api.Errno{1: want, 999: want, 1000: want, 1001: api.ErrRange, 1002: api.ErrRange, 5000: api.ErrRange} {
			answers(t, strconv.Itoa(n)+" of "+v, node(t, one), "f", trace(v+times(n-1, "|"+v)), api.OK, want)
		}
	}
	for _, in := range []string{"5", "true true", "5 | 5 | nil"} {
		answers(t, "too heavy", program(t, heavy(10001)), "f", trace(in), api.OK, api.ErrRange)
	}
	last := trace("5" + times(999, "| 5") + "| nil")
	answers(t, "the last of 1001", node(t, one), "f", last, api.OK, api.ErrRange)
	answers(t, "the last of 1000", node(t, one), "f", last[1:], api.OK, api.ErrType)
}
