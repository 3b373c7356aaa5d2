package parse_test

import (
	"math/rand/v2"
	"strconv"
	"strings"
	"testing"

	"shuttlecock/api"
	"shuttlecock/ast"
)

// The limits, as the document has them.
const (
	mostOpen    = 400
	mostEntries = 1000
	mostDepth   = 200
)

// opener is a token that opens something, with what stands ahead of it and
// what closes it; an x among n of them is of the depth base and n times
// deeper.
type opener struct {
	ahead, token, closes string
	base, deeper         int
}

var openers = []opener{
	{"", "( ", ")", 1, 0},
	{"1 + ", "( ", ")", 1, 1},
	{"f", "( ", ")", 1, 1},
	{"", "- ", "", 1, 1},
	{"", "not ", "", 1, 1},
	{"", "pre ", "", 1, 1},
	{"x + 1 ", "=> ", "", 2, 1},
	{"x or y ", "-> ", "", 2, 1},
	{"", "if ", " then 1 else 2", 1, 1},
	{"", "if 1 then ", " else 2", 1, 1},
	{"", "if 1 then 2 else ", "", 1, 1},
}

// closers are those that open, ahead of their own token, something that is
// closed there, each as many at once as it tells.
var closers = map[opener]int{
	{"- 1 * (2) + ", "( ", ") - 1", 3, 2}:                       1,
	{"(- 1 + f(2)) = 3 => 4 ", "-> ", "", 5, 1}:                 2,
	{"- - - f(- 1) and (1) ", "=> ", "", 7, 1}:                  5,
	{"", "if if 1 then 2 else 3 then - 1 -> 2 else ", "", 3, 1}: 2,
}

// among asks of an x among n of an opener that are not too many to be open.
func among(t *testing.T, o opener, n int) {
	t.Helper()
	rest := strings.Repeat(o.ahead+o.token, n) + "x" + strings.Repeat(o.closes, n) + tail
	depth := o.base + n*o.deeper
	if depth > mostDepth {
		failsAt(t, head, rest, api.ErrDeep)
		return
	}
	p := goes(t, head+rest)
	if len(p.Nodes) != 1 || p.Nodes[0].Eqs[0].Rhs.Depth() != depth {
		t.Errorf("P5.1: %d of %q: not %d deep", n, o.ahead+o.token, depth)
	}
}

func TestOpen(t *testing.T) {
	some := []int{1, 2, 98, 99, 193, 194, 195, 196, 197, 198, 199, 200, 201, 300, 395, 396, 397, 398, 399, 400}
	for _, o := range openers {
		for _, n := range some {
			among(t, o, n)
		}
		for _, n := range []int{401, 402, 1000} {
			ahead := head + strings.Repeat(o.ahead+o.token, mostOpen) + o.ahead
			rest := o.token + strings.Repeat(o.ahead+o.token, n-mostOpen-1) + "x"
			failsAt(t, ahead, rest+strings.Repeat(o.closes, n)+tail, api.ErrDeep)
			failsAt(t, ahead, rest, api.ErrDeep)
		}
	}
	for o, own := range closers {
		for _, n := range some {
			if n-1+own <= mostOpen {
				among(t, o, n)
			}
		}
	}
}

// plain are openers by where they may stand: the first 5 behind a prefix, too;
// the first 6 behind a `=>`, too; the first 7 behind a `->`, too; and all of
// them where any expression may.
var plain = []opener{
	openers[0], openers[2], openers[3], openers[4], openers[5],
	{"x ", "=> ", "", 1, 1}, {"x ", "-> ", "", 1, 1},
	openers[8], openers[9], openers[10],
}

// nest is a text of n openers, each in the one ahead of it; where each of
// them begins; what closes them; and the depth of an x in them.
func nest(r *rand.Rand, n int) (string, []int, string, int) {
	s, starts, closes, depth := "", []int{}, "", 1
	may := len(plain)
	for range n {
		i := r.IntN(may)
		o := plain[i]
		may = len(plain)
		switch {
		case 2 <= i && i <= 4:
			may = 5
		case i == 5 || i == 6:
			may = i + 1
		}
		starts = append(starts, len(s+o.ahead))
		s += o.ahead + o.token
		closes = o.closes + closes
		depth += o.deeper
	}
	return s, starts, closes, depth
}

func TestOpenOfAllKinds(t *testing.T) {
	for seed := range uint64(300) {
		r := rand.New(rand.NewPCG(seed, 5))
		s, starts, closes, _ := nest(r, mostOpen+1+r.IntN(3))
		failsAt(t, head+s[:starts[mostOpen]], s[starts[mostOpen]:]+"x"+closes+tail, api.ErrDeep)
		failsAt(t, head+s[:starts[mostOpen]], s[starts[mostOpen]:], api.ErrDeep)

		s, _, closes, _ = nest(r, mostOpen-r.IntN(3))
		failsAt(t, head, s+"x"+closes+tail, api.ErrDeep)
		failsAt(t, head+s, tail, api.ErrForm)

		s, _, closes, depth := nest(r, 1+r.IntN(mostDepth-1))
		if p := goes(t, head+s+"x"+closes+tail); len(p.Nodes) != 1 || p.Nodes[0].Eqs[0].Rhs.Depth() != depth {
			t.Errorf("P5.1: %q: not %d deep", s, depth)
		}
	}
}

// TestWhatIsClosed asks of texts in which more is opened than may be open,
// but not at once.
func TestWhatIsClosed(t *testing.T) {
	for _, s := range []string{"(1)", "- - 1", "not pre 1", "f()", "if 1 then 2 else - 3", "1 -> 2 -> 3", "1 => 2 => 3", "1 => 2 -> 3 => 4", "(- f(if 1 then (2) else g(3 -> 4)))"} {
		operands := strings.Repeat(s+", ", mostEntries-1) + s
		p := goes(t, head+"f("+operands+")"+tail)
		if len(p.Nodes) != 1 || len(p.Nodes[0].Eqs[0].Rhs.Kids) != mostEntries {
			t.Errorf("P5.1: a call of %d times %q", mostEntries, s)
		}
		goes(t, head+strings.Repeat("(", mostOpen-30)+s+strings.Repeat(")", mostOpen-30)+strings.Repeat(" + ("+s+")", 150)+tail)
		goes(t, head+"1; "+strings.Repeat("y = "+s+"; ", mostEntries-1)+"tel")
	}
	// A `=>` is closed by a `->`, so that only the latter ones add up.
	pair := "a => b -> "
	failsAt(t, head, strings.Repeat(pair, mostOpen-1)+"a => b -> c"+tail, api.ErrDeep)
	failsAt(t, head+strings.Repeat(pair, mostOpen)+"a ", "=> b -> c"+tail, api.ErrDeep)
	goes(t, head+strings.Repeat(pair, mostDepth-2)+"a => b"+tail)
	// A prefix is closed by all ops of two.
	for _, o := range ops[ast.Bin] {
		prefixes := strings.Repeat("- ", mostOpen) + "x "
		failsAt(t, head, prefixes+o+" y"+tail, api.ErrDeep)
		failsAt(t, head, prefixes+o+" - y"+tail, api.ErrDeep)
		goes(t, head+strings.Repeat("- ", mostDepth-2)+"x "+o+" "+strings.Repeat("- ", mostDepth-2)+"y"+tail)
	}
}

// TestFormAheadOfDeep asks of texts that go wrong, behind the bar, where as
// much is open as may be.
func TestFormAheadOfDeep(t *testing.T) {
	full := head + strings.Repeat("(", mostOpen)
	for s, err := range map[string]api.Errno{
		"|(x": api.ErrDeep, "|- x": api.ErrDeep, "|not x": api.ErrDeep, "|pre": api.ErrDeep, "|if": api.ErrDeep, "f |(": api.ErrDeep, "x |->": api.ErrDeep, "x |=>": api.ErrDeep,
		"x + |(": api.ErrDeep, "x = |- 1": api.ErrDeep, "x and |not y": api.ErrDeep, "x + f |()": api.ErrDeep, "x or y |-> z": api.ErrDeep, "x * 1 |=> z": api.ErrDeep,
		"x + |if y": api.ErrForm, "x * |if": api.ErrForm, "1 |(2)": api.ErrForm, "x |not y": api.ErrForm, "x |pre y": api.ErrForm, "x |if": api.ErrForm, "true |(": api.ErrForm,
		"|-> x": api.ErrForm, "|=> x": api.ErrForm, "x + |-> y": api.ErrForm, "|)": api.ErrForm, "|+ 1": api.ErrForm, "x = 1 |= 2": api.ErrForm, "|then": api.ErrForm, "f |then": api.ErrForm,
	} {
		ahead, rest, _ := strings.Cut(s, "|")
		failsAt(t, full+ahead, rest, err)
		failsAt(t, full+ahead, rest+strings.Repeat(")", mostOpen)+tail, err)
	}
	p := goes(t, full+"x - 1 = y or z"+strings.Repeat(")", mostOpen)+" - 1 "+strings.Repeat("+ (2)", 100)+tail)
	if p.Nodes[0].Eqs[0].Rhs.Depth() != 105 {
		t.Error("P5.1: brackets make an expression deeper")
	}
}

func TestDepth(t *testing.T) {
	sum := func(n int) string { return strings.Repeat("1 + ", n-1) + "1" }
	goes(t, head+sum(mostDepth)+tail)
	goes(t, head+"("+sum(mostDepth-1)+") + "+"("+sum(mostDepth-1)+")"+tail)
	goes(t, head+"1; y = "+sum(mostDepth)+tail)
	for _, s := range []string{
		sum(mostDepth + 1), sum(10 * mostDepth), "((" + sum(mostDepth+1) + "))", "f(1, " + sum(mostDepth) + ")", "if 1 then 2 else " + sum(mostDepth), "- (" + sum(mostDepth) + ")",
		"1 -> " + sum(mostDepth), sum(mostDepth-10) + " = " + sum(mostDepth), "(" + sum(mostDepth) + ") * 2", "f(" + sum(mostDepth) + ", 1, 2)", "if " + sum(mostDepth) + " then 1 else 2",
		"if 1 then " + sum(mostDepth) + " else 2",
	} {
		failsAt(t, head, s+tail, api.ErrDeep)
		failsAt(t, head, s+" x", api.ErrDeep)
		failsAt(t, head, s+") "+tail, api.ErrDeep)
		failsAt(t, head, s, api.ErrDeep)
		failsAt(t, head+"1; (z, w) =\n  ", s+" "+tail, api.ErrDeep)
		failsAt(t, "\n\n"+head+"1; tel "+head+" ", s+" node", api.ErrDeep)
		failsAt(t, head+s+" + ", tail, api.ErrForm)
		failsAt(t, head+s+" - f(2 ", tail, api.ErrForm)
		failsAt(t, "node f() returns (y: int); let y ", "-> "+s+tail, api.ErrForm)
		failsAt(t, head+s+" + ", strings.Repeat("9", 30)+tail, api.ErrRange)
	}
	failsAt(t, head, sum(1<<18)+tail, api.ErrDeep)
	failsAt(t, head, sum(1<<18)+" x", api.ErrDeep)
	failsAt(t, head+sum(1<<18)+" - ", tail, api.ErrForm)
}

// numbered are n names, x0 and on, with something between.
func numbered(n int, between string) string {
	var all []string
	for i := range n {
		all = append(all, "x"+strconv.Itoa(i))
	}
	return strings.Join(all, between)
}

// lists are texts with n entries in a list; of a text, what stands ahead of
// one more, such a one, and what stands behind it.
var lists = map[string]func(n int) (string, string, string){
	"nodes": func(n int) (string, string, string) {
		return strings.Repeat(head+"1"+tail+"\n", n), "node g() returns (y: int); let tel", ""
	},
	"Ins": func(n int) (string, string, string) {
		return "node f(" + numbered(n, ": int; ") + ": int; ", "z: bool", ") returns (y: int); let tel"
	},
	"Ins in a group": func(n int) (string, string, string) {
		return "node f(" + numbered(n, ", ") + ", ", "z", ": int) returns (y: int); let tel"
	},
	"Ins in some groups": func(n int) (string, string, string) {
		return "node f(a, b: int; c: bool; " + numbered(n-3, ", ") + ", ", "z", ": int) returns (y: int); let tel"
	},
	"Outs": func(n int) (string, string, string) {
		return "node f(a: int) returns (" + numbered(n, ": int; ") + ": int; ", "z: bool", "); let tel"
	},
	"Outs in a group": func(n int) (string, string, string) {
		return "node f(a: int) returns (b: int; " + numbered(n-1, ", ") + ", ", "z", ": bool); let tel"
	},
	"Locals": func(n int) (string, string, string) {
		return "node f(a: int) returns (b: int); var " + numbered(n, ": int; ") + ": int; ", "z: bool;", " let tel"
	},
	"Locals in a group": func(n int) (string, string, string) {
		return "node f(a: int) returns (b: int); var c: int; " + numbered(n-1, ", ") + ", ", "z", ": bool; let tel"
	},
	"equations": func(n int) (string, string, string) {
		return "node f(a: int) returns (b: int); let " + numbered(n, " = 1; ") + " = 2; ", "z = 3;", " tel"
	},
	"equations with brackets": func(n int) (string, string, string) {
		return "node f(a: int) returns (b: int); let " + strings.Repeat("(b) = 1;", n), "(z, a) = 3;", " tel"
	},
	"names on the left": func(n int) (string, string, string) {
		return "node f(a: int) returns (b: int); let b = 1; (" + numbered(n, ", ") + ", ", "z", ") = 2; tel"
	},
	"operands": func(n int) (string, string, string) {
		return head + "1 + f(" + numbered(n, ", ") + ", ", "z", ") - 1" + tail
	},
	"operands of two calls": func(n int) (string, string, string) {
		return head + "f(g(" + numbered(n, ", ") + ", ", "- (z + 1)", "))" + tail
	},
	"operands that are not plain": func(n int) (string, string, string) {
		return head + "f(" + strings.Repeat("g(1, 2) -> 3, ", n), "if 1 then 2 else 3", ")" + tail
	},
}

// longest is how many entries the longest list of a program has.
func longest(p ast.Program) int {
	most := len(p.Nodes)
	for _, n := range p.Nodes {
		most = max(most, len(n.Ins), len(n.Outs), len(n.Locals), len(n.Eqs))
		for _, q := range n.Eqs {
			most = max(most, len(q.Lhs))
			for e := range q.Rhs.Walk() {
				most = max(most, len(e.Kids))
			}
		}
	}
	return most
}

func TestLists(t *testing.T) {
	for what, list := range lists {
		for _, n := range []int{5, 998, 999} {
			ahead, entry, behind := list(n)
			if got := longest(goes(t, ahead+entry+behind)); got != n+1 {
				t.Errorf("P5.1: %d %s, and one more: %d", n, what, got)
			}
		}
		ahead, entry, behind := list(mostEntries)
		failsAt(t, ahead, entry+behind, api.ErrRange)
		failsAt(t, ahead, entry, api.ErrRange)
		failsAt(t, ahead, entry+" then ) 1", api.ErrRange)
		if strings.Contains(what, "operands") {
			for _, s := range strings.Fields("1 x true ( ) , ; : = - not if then -> => * int node let tel const f( (((") {
				failsAt(t, ahead, s+" x"+behind, api.ErrRange)
			}
			failsAt(t, ahead, "", api.ErrRange)
			continue
		}
		for _, s := range strings.Fields("1 true ) , ; : = - not -> if var const int") {
			failsAt(t, ahead, s, api.ErrForm)
			failsAt(t, ahead, s+" "+entry+behind, api.ErrForm)
		}
		failsAt(t, ahead+"\n", "9223372036854775808", api.ErrRange)
		failsAt(t, ahead+"\n"+entry+" ", "# "+behind, api.ErrForm)
	}
}

// TestListsApart asks of programs that have as much as may be in more than
// one list.
func TestListsApart(t *testing.T) {
	xs := numbered(mostEntries, ", ")
	calls := strings.Repeat("f(1, "+numbered(mostEntries-1, ", ")+") + ", 3) + "g(" + xs + ")"
	node := "node f(" + xs + ": int) returns (" + xs + ": bool); var " + xs + ": int; let (" + xs + ") = " + calls + "; " + strings.Repeat("(x) = f();", mostEntries-1) + " tel\n"
	p := goes(t, strings.Repeat(node, 3))
	if len(p.Nodes) != 3 {
		t.Fatal("P5.1: three nodes")
	}
	for _, n := range p.Nodes {
		if len(n.Ins) != mostEntries || len(n.Outs) != mostEntries || len(n.Locals) != mostEntries || len(n.Eqs) != mostEntries || len(n.Eqs[0].Lhs) != mostEntries {
			t.Error("P5.1: a list is shorter")
		}
		for i, v := range n.Ins {
			if v.Name != "x"+strconv.Itoa(i) || v.Type != 0 || n.Outs[i].Name != v.Name || n.Outs[i].Type != 1 || n.Eqs[0].Lhs[i] != v.Name {
				t.Fatalf("P5.1: %d: %v", i, v)
			}
		}
	}
	deep := strings.Repeat("(", mostOpen-1)
	ahead := head + deep + "f(" + numbered(mostEntries, ", ") + ", "
	failsAt(t, ahead, "(", api.ErrRange)
	failsAt(t, ahead, "- 1", api.ErrRange)
	failsAt(t, head+deep+"f(1, ", "(", api.ErrDeep)
	failsAt(t, head+deep+"f(", "(", api.ErrDeep)
	failsAt(t, head+deep+"f(", ",", api.ErrForm)
}

// TestLexAhead asks of texts that go wrong, and have a token that can't be
// behind that.
func TestLexAhead(t *testing.T) {
	for _, ahead := range []string{"", "let ", head + ")", head + strings.Repeat("(", mostOpen+1), head + strings.Repeat("1 + ", mostDepth) + "1; ", head + "1; tel tel\n\n "} {
		failsAt(t, ahead, "#", api.ErrForm)
		failsAt(t, ahead, "(* ", api.ErrForm)
		failsAt(t, ahead, "9223372036854775808", api.ErrRange)
		failsAt(t, ahead, strings.Repeat("n", 61)+" #", api.ErrRange)
		failsAt(t, ahead, "é", api.ErrForm)
	}
}
