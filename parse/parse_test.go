package parse_test

import (
	"strings"
	"testing"

	"shuttlecock/api"
	"shuttlecock/ast"
)

func TestExpressions(t *testing.T) {
	for s, want := range map[string]string{
		"0":                                   "0",
		"007":                                 "7",
		"9223372036854775807":                 "9223372036854775807",
		"true":                                "true",
		"false":                               "false",
		"x":                                   "x",
		"(x)":                                 "x",
		"(((1)))":                             "1",
		"f()":                                 "(!f)",
		"f ( )":                               "(!f)",
		"f(1)":                                "(!f 1)",
		"f(1, x, true)":                       "(!f 1 x true)",
		"f((1))":                              "(!f 1)",
		"f(g(), g(h(1)), -1)":                 "(!f (!g) (!g (!h 1)) (- 1))",
		"f(if a then b else c, a -> b)":       "(!f (? a b c) (-> a b))",
		"- 1":                                 "(- 1)",
		"- -1":                                "(- (- 1))",
		"-(-1)":                               "(- (- 1))",
		"not not x":                           "(not (not x))",
		"pre pre x":                           "(pre (pre x))",
		"- not pre - x":                       "(- (not (pre (- x))))",
		"a -> pre a + 1":                      "(-> a (+ (pre a) 1))",
		"a -> b -> c":                         "(-> a (-> b c))",
		"(a -> b) -> c":                       "(-> (-> a b) c)",
		"a => b => c":                         "(=> a (=> b c))",
		"a -> b => c -> d":                    "(-> a (-> (=> b c) d))",
		"a => b -> c => d":                    "(-> (=> a b) (=> c d))",
		"a => (b -> c) => d":                  "(=> a (=> (-> b c) d))",
		"1 - 2 - 3":                           "(- (- 1 2) 3)",
		"1 - (2 - 3)":                         "(- 1 (- 2 3))",
		"1 + 2 - 3 + 4":                       "(+ (- (+ 1 2) 3) 4)",
		"1 div 2 mod 3 * 4":                   "(* (mod (div 1 2) 3) 4)",
		"a or b xor c or d":                   "(or (xor (or a b) c) d)",
		"a and b and c":                       "(and (and a b) c)",
		"a or b and c xor d":                  "(xor (or a (and b c)) d)",
		"a and b or c and d":                  "(or (and a b) (and c d))",
		"a = b and c <> d":                    "(and (= a b) (<> c d))",
		"a + b < c * d":                       "(< (+ a b) (* c d))",
		"(1 = 2) = 3":                         "(= (= 1 2) 3)",
		"1 = (2 = 3)":                         "(= 1 (= 2 3))",
		"1 <= 2 and 3 >= 4":                   "(and (<= 1 2) (>= 3 4))",
		"1 + 2 * 3":                           "(+ 1 (* 2 3))",
		"(1 + 2) * 3":                         "(* (+ 1 2) 3)",
		"- 1 * - 2":                           "(* (- 1) (- 2))",
		"-x - -y":                             "(- (- x) (- y))",
		"not a and not b":                     "(and (not a) (not b))",
		"not (a and b)":                       "(not (and a b))",
		"pre f(x) + 1":                        "(+ (pre (!f x)) 1)",
		"pre (x) -> y":                        "(-> (pre x) y)",
		"if a then b else c":                  "(? a b c)",
		"if a then b else c -> d":             "(? a b (-> c d))",
		"(if a then b else c) -> d":           "(-> (? a b c) d)",
		"a -> (if b then c else d)":           "(-> a (? b c d))",
		"if if a then b else c then d else e": "(? (? a b c) d e)",
		"if a then if b then c else d else e": "(? a (? b c d) e)",
		"if a then b else if c then d else e": "(? a b (? c d e))",
		"if a -> b then c => d else e + f":    "(? (-> a b) (=> c d) (+ e f))",
		"not(if a then b else c)":             "(not (? a b c))",
		"1--a note\n+(*another*)2":            "(+ 1 2)",
		"x-1":                                 "(- x 1)",
		"x->-1":                               "(-> x (- 1))",
	} {
		means(t, s, want)
	}
}

// TestEachPair asks of each two operators of two, side by side, which of them
// stands below the other one.
func TestEachPair(t *testing.T) {
	levels := []string{"->", "=>", "or xor", "and", "= <> < <= > >=", "+ -", "* div mod"}
	for n, some := range levels {
		for _, o := range strings.Fields(some) {
			means(t, "1 "+o+" 2", "("+o+" 1 2)")
			means(t, "1 "+o+" not 2", "("+o+" 1 (not 2))")
			means(t, "pre 1 "+o+" 2", "("+o+" (pre 1) 2)")
			for m, others := range levels {
				for _, u := range strings.Fields(others) {
					s := "1 " + o + " 2 " + u + " 3"
					ofFirst, ofSecond := "("+u+" ("+o+" 1 2) 3)", "("+o+" 1 ("+u+" 2 3))"
					switch {
					case n > m || n == m && (n == 2 || n == 3 || n == 5 || n == 6):
						means(t, s, ofFirst)
					case n < m || n < 2:
						means(t, s, ofSecond)
					default:
						failsAt(t, head+"1 "+o+" 2 ", u+" 3"+tail, api.ErrForm)
					}
					means(t, "(1 "+o+" 2) "+u+" 3", ofFirst)
					means(t, "1 "+o+" (2 "+u+" 3)", ofSecond)
				}
			}
		}
	}
}

func TestOps(t *testing.T) {
	for op, s := range ops[ast.Bin] {
		p := goes(t, head+"a "+s+" b"+tail)
		if e := p.Nodes[0].Eqs[0].Rhs; e.Kind != ast.Bin || e.Op != op {
			t.Errorf("P5.1: %s is %v", s, e)
		}
	}
	for op, s := range ops[ast.Un] {
		p := goes(t, head+s+" b"+tail)
		if e := p.Nodes[0].Eqs[0].Rhs; e.Kind != ast.Un || e.Op != op {
			t.Errorf("P5.1: %s is %v", s, e)
		}
	}
}

func TestPrograms(t *testing.T) {
	x, y := ast.Expr{Kind: ast.Var, Name: "x"}, ast.Expr{Kind: ast.Var, Name: "y"}
	outs := []ast.Variable{{Name: "y", Type: 1}}
	for s, want := range map[string]ast.Program{
		"":                                    {},
		" \n -- one":                          {},
		"node f() returns (y: bool); let tel": {Nodes: []ast.Node{{Name: "f", Outs: outs}}},
		"node f() returns (y: bool); let tel node f() returns (y: bool); let tel": {
			Nodes: []ast.Node{{Name: "f", Outs: outs}, {Name: "f", Outs: outs}}},
		"node f(a: int) returns (y: bool); let y = x; tel": {Nodes: []ast.Node{{
			Name: "f", Ins: []ast.Variable{{Name: "a"}}, Outs: outs, Eqs: []ast.Equation{{Lhs: []string{"y"}, Rhs: x}}}}},
		"node g(a, b: int; c: bool; d, e, a: int) returns (p: bool; q, r: int);\nvar s: int; t, u: bool; v: int; let\n(p) = x; (q, r, q) = y; s = x;\ntel\n": {
			Nodes: []ast.Node{{
				Name:   "g",
				Ins:    []ast.Variable{{Name: "a"}, {Name: "b"}, {Name: "c", Type: 1}, {Name: "d"}, {Name: "e"}, {Name: "a"}},
				Outs:   []ast.Variable{{Name: "p", Type: 1}, {Name: "q"}, {Name: "r"}},
				Locals: []ast.Variable{{Name: "s"}, {Name: "t", Type: 1}, {Name: "u", Type: 1}, {Name: "v"}},
				Eqs:    []ast.Equation{{Lhs: []string{"p"}, Rhs: x}, {Lhs: []string{"q", "r", "q"}, Rhs: y}, {Lhs: []string{"s"}, Rhs: x}},
			}}},
		"node g() returns (y: bool); var s: bool; let tel": {Nodes: []ast.Node{{
			Name: "g", Outs: outs, Locals: []ast.Variable{{Name: "s", Type: 1}}}}},
		"node(*a*)g(y:bool)returns(y:bool);let(y)=(y);y=(x);tel--": {Nodes: []ast.Node{{
			Name: "g", Ins: outs, Outs: outs, Eqs: []ast.Equation{{Lhs: []string{"y"}, Rhs: y}, {Lhs: []string{"y"}, Rhs: x}}}}},
	} {
		if p := goes(t, s); !p.Same(want) {
			t.Errorf("P5.1: %q: %v", s, p)
		}
	}
}

// TestCutShort asks of a program of which the end lacks, and of one behind
// which something stands that begins none.
func TestCutShort(t *testing.T) {
	const s = "node f ( a : int ) returns ( y : int ; z : bool ) ; var b , c : int ; let ( y , z ) = g ( a ) ; b = if z then - 1 else c ; tel "
	all := strings.SplitAfter(s, " ")
	for i := range len(all) - 2 {
		failsAt(t, strings.Join(all[:i+1], ""), "", api.ErrForm)
		failsAt(t, s+strings.Join(all[:i+1], ""), "", api.ErrForm)
	}
	goes(t, s+s)
	for _, more := range strings.Fields("x 1 ; ( tel let var returns const true int ->") {
		failsAt(t, s, more, api.ErrForm)
		failsAt(t, s, more+" "+s, api.ErrForm)
		failsAt(t, "", more+" "+s, api.ErrForm)
	}
}

// TestForm asks of texts that go wrong at the token behind the bar.
func TestForm(t *testing.T) {
	const f = "node f() returns (y: int)"
	for _, s := range []string{
		"|let", "node |(", "node |node", "node |1", "node f |returns", "node f(|", "node f(|;)", "node f(|1: int)", "node f(|int: a)",
		"node f(a|)", "node f(a |a: int)", "node f(a,|: int)", "node f(a: |real)", "node f(a: |1)", "node f(a: int|,)", "node f(a: int;|)", "node f(a: int;|;)",
		"node f(a: int |b: int)", "node f(|(", "node f(|(a): int)", "node f() |(", "node f() returns |;", "node f() returns (|) ;", "node f() returns (y: int;|)",
		f + " |let", f + " |var", f + "; |tel", f + "; |y = 1;", f + "; |;", f + "; var |let", f + "; var |: int;", f + "; var a: int |let", f + "; var a: int; |var b: int;",
		f + "; var a: int; |;", f + "; var a: int; b|;", f + "; var a: int; |tel", f + "; let |1 = y;", f + "; let |true = y;", f + "; let (|) = y;", f + "; let (y,|) = y;",
		f + "; let (y|; z) = y;", f + "; let (|(y)) = y;", f + "; let (|1) = y;", f + "; let y|, z = y;", f + "; let y |-> y;", f + "; let y |(1) = 1;", f + "; let y = 1; |let",
		f + "; let y = 1 |tel", f + "; let y = 1;|; tel", f + "; let y = 1; |= 1; tel", f + "; let tel|;", f + "; let tel |tel", f + "; let tel |y = 1;",
	} {
		ahead, rest, is := strings.Cut(s, "|")
		if !is {
			t.Fatalf("%q without a bar", s)
		}
		failsAt(t, ahead+" ", rest, api.ErrForm)
		if rest == "" {
			rest = "const"
		}
		failsAt(t, "\n--\n"+ahead+"\n\t", rest+" const 1 (", api.ErrForm)
	}
}

// TestFormOfExpressions asks of expressions that go wrong at the token behind
// the bar.
func TestFormOfExpressions(t *testing.T) {
	for _, s := range []string{
		"|", "|)", "(|)", "(1|", "(1|, 2)", "((1)|", "1|)", "1 |2", "x |y", "x |1", "1 |x", "1 |(2)", "true |(2)", "(f) |(2)", "f(1) |(2)",
		"|=", "|* 1", "|+ 1", "|-> 1", "|and a", "1 +|", "1 + |* 2", "1 -> |-> 2", "1 - |+ 2", "1 = 2 |= 3", "1 < 2 |>= 3", "1 = 2 + 3 |<> 4",
		"1 = |= 2", "a => 1 = 2 |= 3", "-|", "- |)", "not |or a", "pre |-> a", "- |+ 1", "not |if a then b else c", "1 + |if a then b else c",
		"a -> |if a then b else c", "a => |if a then b else c", "a and |if a then b else c", "if |then b else c", "if a |else c", "if a then |else c", "if a then b|",
		"if a then b else|", "if a then b |then c", "if a then b else c |else d", "a |then b", "a |else b", "(if a then b|) else c", "(if a|) then b else c",
		"f(|", "f(|,)", "f(1|", "f(1,|)", "f(1,|, 2)", "f(1 |2)", "f(1|; 2)", "f(1|: 2)", "f|: 1", "f((1|, 2))", "f(1, 2) |f", "|int", "|const", "|node f", "|let", "|tel",
		"1 |not 2", "1 |pre 2", "1 |true", "- 1 |if a then b else c", "1 - |mod 2", "1 div |div 2", "x = |returns",
	} {
		ahead, rest, is := strings.Cut(s, "|")
		if !is {
			t.Fatalf("%q without a bar", s)
		}
		if rest == "" {
			rest = ";"
		}
		failsAt(t, head+ahead+" ", rest+tail, api.ErrForm)
		failsAt(t, head+"\n"+ahead+"\n (* ( *) ", rest+" const 1 (", api.ErrForm)
	}
}
