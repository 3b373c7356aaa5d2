package parse_test

import (
	"math/rand/v2"
	"slices"
	"strings"
	"testing"
	"unsafe"

	"shuttlecock/api"
	"shuttlecock/ast"
	"shuttlecock/lex"
	"shuttlecock/parse"
)

// layout puts tokens one behind the other, with something behind each, and
// tells where each of them begins, and the end.
func layout(tokens []string, behind func() string) (string, []int) {
	var s strings.Builder
	var starts []int
	for _, x := range tokens {
		starts = append(starts, s.Len())
		s.WriteString(x + behind())
	}
	return s.String(), append(starts, s.Len())
}

// holds tells whether a text is taken, or goes wrong, as the rules tell of its
// tokens: next is what may come behind them all, and nothing may, if the last
// of them is the first by which they do not go on so.
func holds(t *testing.T, tokens []string, next states, behind func() string) bool {
	t.Helper()
	s, starts := layout(tokens, behind)
	switch {
	case len(next) == 0:
		ahead := s[:starts[len(tokens)-1]]
		failsAt(t, ahead, s[len(ahead):], api.ErrForm)
		failsAt(t, ahead, s[len(ahead):]+"1 node ) tel", api.ErrForm)
	case !next.ends():
		failsAt(t, s, "", api.ErrForm)
	default:
		if p := goes(t, s); !p.Same(readProgram(tokens)) {
			t.Errorf("P5.1: %q: %v", s, p)
		}
	}
	return !t.Failed()
}

// oneBlank is the least that keeps tokens apart.
func oneBlank() string { return " " }

// agrees tells whether a text of any tokens is taken, or goes wrong, as the
// rules tell.
func agrees(t *testing.T, g grammar, tokens []string) {
	t.Helper()
	from := g.begin("Program")
	for i, x := range tokens {
		if from = g.behind(from, x); len(from) == 0 {
			s, starts := layout(tokens, oneBlank)
			failsAt(t, s[:starts[i]], s[starts[i]:], api.ErrForm)
			return
		}
	}
	holds(t, tokens, from, oneBlank)
}

// TestEachToken asks of a program one of whose tokens lacks, or is another
// one, or has another one ahead of it, or is there twice.
func TestEachToken(t *testing.T) {
	all := strings.Fields("node f ( a , b : int ; c : bool ) returns ( d : int ; e , h : bool ) ; var i : int ; j , k : bool ; let " +
		"( d , e ) = g ( a , b -> 1 ) ; h = if c then - b = 2 else not ( true or j ) => f ( ) ; i = 1 - 2 - 3 * pre a ; tel node g ( ) returns ( a : int ) ; let a = 0 ; tel")
	g := newGrammar()
	agrees(t, g, all)
	for i := range all {
		agrees(t, g, slices.Delete(slices.Clone(all), i, i+1))
		agrees(t, g, slices.Insert(slices.Clone(all), i, all[i]))
		for _, x := range theTokens() {
			agrees(t, g, slices.Replace(slices.Clone(all), i, i+1, x))
			agrees(t, g, slices.Insert(slices.Clone(all), i, x))
		}
	}
}

// theTokens are all tokens of the rules, and others.
func theTokens() []string {
	return strings.Fields("x 7 node ( ) returns , : int bool ; var let tel if then else true false = <> < <= > >= => -> + - * div mod and or xor not pre const")
}

// shortOnes asks of all expressions that go on from some tokens by a few
// more, and of all that go wrong at the last of these.
func shortOnes(t *testing.T, g grammar, tokens []string, from states, more int) int {
	t.Helper()
	taken := 0
	for _, x := range strings.Fields("1 x ( ) , - not -> => or and = < + mod if then else true ;") {
		longer, next := append(slices.Clone(tokens), x), g.behind(from, x)
		if !holds(t, longer, next, oneBlank) {
			return taken
		}
		if whole := g.behind(g.behind(next, ";"), "tel"); whole.ends() {
			taken++
			holds(t, append(longer, ";", "tel"), whole, oneBlank)
		}
		if len(next) > 0 && more > 1 && x != ";" {
			taken += shortOnes(t, g, longer, next, more-1)
		}
	}
	return taken
}

func TestAllShortExpressions(t *testing.T) {
	g := newGrammar()
	tokens := strings.Fields("node f ( ) returns ( y : int ) ; let y =")
	from := g.begin("Program")
	for _, x := range tokens {
		from = g.behind(from, x)
	}
	if taken := shortOnes(t, g, tokens, from, 5); taken < 3900 {
		t.Errorf("only %d are taken", taken)
	}
}

// anyBetween is something that may stand between tokens.
func anyBetween(r *rand.Rand) func() string {
	all := []string{" ", " ", " ", "\n", "\t", "\r\n", " -- a note (\n", "(* ; *)", " (*\n\n*) "}
	return func() string { return all[r.IntN(len(all))] }
}

// anyToken is a token of a class.
func anyToken(r *rand.Rand, class string) string {
	switch class {
	case "name":
		return []string{"x", "y", "_1", "Node", strings.Repeat("n", 60)}[r.IntN(5)]
	case "number":
		return []string{"0", "1", "42", "007", "9223372036854775807"}[r.IntN(5)]
	}
	return class
}

// walk is a text's tokens by the rules, and what may come behind them: those
// by which it ends are chosen the more, the more have come, and now and then
// one is chosen that may lead astray.
func walk(r *rand.Rand, g grammar, astray int) ([]string, states) {
	words := theTokens()
	var tokens []string
	from := g.begin("Program")
	for len(tokens) < 400 {
		may := from.tokens()
		if len(may) == 0 || len(tokens) > 0 && from.ends() && r.IntN(2) == 0 {
			break
		}
		x := anyToken(r, may[r.IntN(len(may))])
		for range len(tokens) / 15 {
			if y := anyToken(r, may[r.IntN(len(may))]); g.behind(from, y).nearest() < g.behind(from, x).nearest() {
				x = y
			}
		}
		if r.IntN(astray) == 0 {
			x = anyToken(r, words[r.IntN(len(words))])
		}
		tokens, from = append(tokens, x), g.behind(from, x)
		if len(from) == 0 {
			break
		}
	}
	return tokens, from
}

func TestGoesOnAsTheRules(t *testing.T) {
	g, taken, wrong := newGrammar(), 0, 0
	for seed := range uint64(3000) {
		r := rand.New(rand.NewPCG(seed, 51))
		tokens, next := walk(r, g, []int{40, 200, 1 << 30}[seed%3])
		if !holds(t, tokens, next, anyBetween(r)) {
			t.Fatalf("seed %d: %q", seed, tokens)
		}
		if next.ends() {
			taken++
		} else {
			wrong++
		}
	}
	if taken < 800 || wrong < 800 {
		t.Errorf("only %d are taken, and %d wrong", taken, wrong)
	}
}

// TestWhateverComes asks of any tokens, and of any bytes.
func TestWhateverComes(t *testing.T) {
	words := strings.Fields("x y 1 7 node f ( ) returns , : int bool ; var let tel if then else true false = < => -> + - * div and or not pre const # (* *) -- 9223372036854775808")
	for seed := range uint64(20000) {
		r := rand.New(rand.NewPCG(seed, 52))
		var s strings.Builder
		s.WriteString([]string{"", head, head + "x -> ", "node f("}[r.IntN(4)])
		for range r.IntN(12) {
			s.WriteString(words[r.IntN(len(words))] + " "[:r.IntN(2)])
		}
		for range r.IntN(4) {
			s.WriteByte(byte(r.Uint32()))
		}
		text := strings.Clone(s.String())
		p, place, e := parse.Parse(text)
		q, again, f := parse.Parse(text)
		if !p.Same(q) || place != again || e != f || text != s.String() {
			t.Fatalf("R6: %q: asked twice, and not answered likewise", text)
		}
		if !p.Right() {
			t.Fatalf("P5.2: %q: not right", text)
		}
		_, lexed, lexError := lex.Lex(text)
		switch {
		case lexError != api.OK:
			if e != lexError || place != lexed || len(p.Nodes) > 0 {
				t.Fatalf("P5.1: %q: not layer 4's error", text)
			}
		case e == api.OK:
			if place != (lex.Place{}) {
				t.Fatalf("P5.1: %q: a place without an error", text)
			}
		case e != api.ErrForm || place.Line < 1 || place.Column < 1 || len(p.Nodes) > 0:
			t.Fatalf("P5.1: %q: %v, %v, %d", text, p, place, e)
		}
	}
}

// TestLongTexts asks of texts that nothing keeps from going on and on.
func TestLongTexts(t *testing.T) {
	const long = 1 << 16
	for _, s := range []string{"(", "- ", "not ", "pre ", "x -> ", "x => ", "if ", "if 1 then ", "if 1 then 2 else ", "f(", "f(1, ", "(- ", "1 + (", "x -> (if y then pre "} {
		if p, _, e := parse.Parse(head + strings.Repeat(s, long)); e != api.ErrDeep || len(p.Nodes) > 0 {
			t.Errorf("R1: %q and so on: %d", s, e)
		}
	}
	for _, s := range []string{"x, ", "x: int; "} {
		if _, place, e := parse.Parse("node f(" + strings.Repeat(s, long)); e != api.ErrRange || place.Line != 1 {
			t.Errorf("R1: %q and so on: %d", s, e)
		}
	}
	if _, _, e := parse.Parse(strings.Repeat("node f() returns (x: int); let tel ", 1<<15)); e != api.ErrRange {
		t.Errorf("R1: many nodes: %d", e)
	}
}

const whole = "node f(a, b: int; c: bool) returns (d, e: int);\nvar g: int; h, i: bool;\nlet (d, e) = f(a, - b, c -> true); g = if h then f(1, 2) else x; tel\n"

// strung are all texts of a program.
func strung(p ast.Program) []string {
	var all []string
	for _, n := range p.Nodes {
		all = append(all, n.Name)
		for _, v := range slices.Concat(n.Ins, n.Outs, n.Locals) {
			all = append(all, v.Name)
		}
		for _, q := range n.Eqs {
			all = append(all, q.Lhs...)
			for e := range q.Rhs.Walk() {
				all = append(all, e.Name)
			}
		}
	}
	return slices.DeleteFunc(all, func(s string) bool { return s == "" })
}

func TestNothingIsShared(t *testing.T) {
	s := strings.Clone(whole + whole)
	first, _, _ := parse.Parse(s)
	second, _, _ := parse.Parse(s)
	within := func(x, of string) bool {
		a, b := uintptr(unsafe.Pointer(unsafe.StringData(x))), uintptr(unsafe.Pointer(unsafe.StringData(of)))
		return b <= a && a < b+uintptr(len(of))
	}
	for _, x := range strung(first) {
		if within(x, s) {
			t.Errorf("R4: %q shares memory with what was handed in", x)
		}
		for _, y := range strung(second) {
			if within(x, y) {
				t.Errorf("R4: %q shares memory with another answer", x)
			}
		}
	}
	if s != whole+whole {
		t.Error("R4: what was handed in is changed")
	}
}

// extend puts an entry more behind each list of an expression.
func extend(e *ast.Expr) {
	for i := range e.Kids {
		extend(&e.Kids[i])
	}
	_ = append(e.Kids, ast.Expr{Kind: 9, Name: "another"})
}

// TestListsShareNothing puts entries behind all lists of an answer, and
// changes all of another one: neither is seen elsewhere.
func TestListsShareNothing(t *testing.T) {
	p, _, _ := parse.Parse(whole + whole)
	q, _, _ := parse.Parse(whole + whole)
	for i := range p.Nodes {
		n := &p.Nodes[i]
		_ = append(n.Ins, ast.Variable{Name: "another"})
		_ = append(n.Outs, ast.Variable{Name: "another"})
		_ = append(n.Locals, ast.Variable{Name: "another"})
		_ = append(n.Eqs, ast.Equation{})
		for j := range n.Eqs {
			_ = append(n.Eqs[j].Lhs, "another")
			extend(&n.Eqs[j].Rhs)
		}
	}
	if !p.Same(q) {
		t.Error("R4: two lists of an answer share memory")
	}
	first := p.Nodes[0]
	for _, n := range p.Nodes[1:] {
		for _, list := range [][]ast.Variable{n.Ins, n.Outs, n.Locals} {
			for i := range list {
				list[i] = ast.Variable{Name: "other", Type: 7}
			}
		}
		for i := range n.Eqs {
			n.Eqs[i].Lhs[0] = "other"
			n.Eqs[i].Rhs.Kids[0] = ast.Expr{Name: "other"}
		}
	}
	if !(ast.Program{Nodes: []ast.Node{first}}).Same(ast.Program{Nodes: q.Nodes[:1]}) {
		t.Error("R4: two nodes of an answer share memory")
	}
	if again, _, _ := parse.Parse(whole + whole); !again.Same(q) {
		t.Error("R4: an answer that is changed changes another one")
	}
}

func TestNothingIsKept(t *testing.T) {
	p := goes(t, whole)
	for _, s := range []string{"", "#", "let", head + "(((", head + strings.Repeat("(", 401), whole + whole, "node f(a, b: bool", head + strings.Repeat("1 + ", 300) + "1"} {
		parse.Parse(s)
		if q := goes(t, whole); !p.Same(q) {
			t.Errorf("R6: answered otherwise behind %.50q", s)
		}
	}
}
