package sem_test

import (
	"math/rand/v2"
	"reflect"
	"slices"
	"strconv"
	"strings"
	"testing"

	"shuttlecock/api"
	"shuttlecock/ast"
	"shuttlecock/sem"
)

// TestWhateverComes holds what goes out of the nodes of any programs against
// the second reading.
func TestWhateverComes(t *testing.T) {
	count := map[string]int{}
	for seed := range uint64(4000) {
		p, ins := anyProgram(seed)
		for i, n := range p.Nodes {
			if w, e := sem.Weight(p, n.Name); w != min(weight(p, n.Name), 10001) || e != api.OK {
				t.Fatalf("P9.2: seed %d: Weight: %d, %d, not %d", seed, w, e, weight(p, n.Name))
			}
			out, e := sem.Run(p, n.Name, ins[i])
			if want := reads(p, n.Name, ins[i]); told(out) != want || e != api.OK {
				t.Fatalf("P9.2: seed %d: node %d of %s: %s, %d, not %s: %v", seed, i, told(ins[i]), told(out), e, want, p)
			}
			for _, l := range out {
				for _, v := range l {
					count[v.String()]++
				}
			}
		}
		q, again := anyProgram(seed)
		if !reflect.DeepEqual(p, q) || !reflect.DeepEqual(ins, again) {
			t.Fatalf("R4: seed %d: what is handed in is changed", seed)
		}
	}
	for _, s := range []string{"nil", "err", "true", "false", "0", "1", "-1"} {
		if count[s] < 500 {
			t.Errorf("only %d times %s", count[s], s)
		}
	}
}

// TestHangsOnWhatCameIn holds what goes out against what goes out of a trace
// that is another one from some instant on, or ends there.
func TestHangsOnWhatCameIn(t *testing.T) {
	held := 0
	for seed := range uint64(1500) {
		p, ins := anyProgram(seed)
		_, other := anyProgram(seed)
		m := &maker{Rand: rand.New(rand.NewPCG(seed, 93))}
		for i, n := range p.Nodes {
			whole, _ := sem.Run(p, n.Name, ins[i])
			for at := range len(ins[i]) + 1 {
				first, e := sem.Run(p, n.Name, ins[i][:at])
				if told(first) != told(whole[:at]) || e != api.OK {
					t.Fatalf("P9.3: seed %d: node %d to %d: %s, not %s", seed, i, at, told(first), told(whole[:at]))
				}
				changed := slices.Concat(ins[i][:at], m.trace(n))
				out, e := sem.Run(p, n.Name, changed)
				if e != api.OK || told(out[:at]) != told(whole[:at]) {
					t.Fatalf("P9.3: seed %d: node %d to %d: %s, not %s", seed, i, at, told(out), told(whole[:at]))
				}
				held += at
			}
		}
		if !reflect.DeepEqual(ins, other) {
			t.Fatalf("R4: seed %d: what is handed in is changed", seed)
		}
	}
	if held < 10000 {
		t.Errorf("only %d instants are held against another one", held)
	}
}

// readsTrace is a second reading of what is wrong of a trace.
func readsTrace(n ast.Node, ins [][]sem.Value) api.Errno {
	for _, l := range ins {
		if len(l) != len(n.Ins) {
			return api.ErrArity
		}
		for i, v := range l {
			if strings.HasPrefix(word(v), "(") || number(word(v)) != nil != (n.Ins[i].Type == 0) || v == none || v == wrong {
				return api.ErrType
			}
		}
	}
	return api.OK
}

// TestSpoiltTraces changes some values of traces.
func TestSpoiltTraces(t *testing.T) {
	count := map[api.Errno]int{}
	for seed := range uint64(3000) {
		p, ins := anyProgram(seed)
		m := &maker{Rand: rand.New(rand.NewPCG(seed, 92))}
		for i, n := range p.Nodes {
			for range m.IntN(4) {
				m.spoil(ins[i])
			}
			want := readsTrace(n, ins[i])
			count[want]++
			out, e := sem.Run(p, n.Name, ins[i])
			if e != want || e != api.OK && out != nil {
				t.Fatalf("P9.2: seed %d: node %d of %s: %s, %d, not %d", seed, i, told(ins[i]), told(out), e, want)
			}
			if want == api.OK && told(out) != reads(p, n.Name, ins[i]) {
				t.Fatalf("P9.2: seed %d: node %d of %s: %s", seed, i, told(ins[i]), told(out))
			}
		}
	}
	for _, e := range []api.Errno{api.OK, api.ErrArity, api.ErrType} {
		if count[e] < 500 {
			t.Errorf("only %d of the error %d", count[e], e)
		}
	}
}

// spoil changes one instant of a trace, if there is one.
func (m *maker) spoil(ins [][]sem.Value) {
	if len(ins) == 0 {
		return
	}
	l := &ins[m.IntN(len(ins))]
	all := append(values("nil err true false 0 1"), noValues...)
	v := all[m.IntN(len(all))]
	switch at := m.IntN(len(*l) + 1); {
	case m.IntN(5) == 0:
		*l = slices.Insert(*l, at, v)
	case at == len(*l):
	case m.IntN(5) == 0:
		*l = slices.Delete(*l, at, at+1)
	default:
		(*l)[at] = v
	}
}

// TestNothingIsShared changes what goes out, and what came in.
func TestNothingIsShared(t *testing.T) {
	p := node(t, "(a: int; c: bool) returns (b: int; d: bool; e, g: int); let b = a; d = c; e = a; g = pre a;")
	const want = "5 true 5 nil | 6 false 6 5 | 7 true 7 6"
	ins := trace("5 true | 6 false | 7 true")
	out, _ := sem.Run(p, "f", ins)
	again, _ := sem.Run(p, "f", ins)
	for _, l := range ins {
		l[0], l[1] = sem.Of(99), wrong
	}
	ins[1] = nil
	if told(out) != want || told(again) != want {
		t.Errorf("R4: %s, %s", told(out), told(again))
	}
	for _, l := range out {
		_ = append(l, sem.Of(98), sem.Of(98), sem.Of(98), sem.Of(98))
	}
	_ = append(out[:1:1], nil)
	if told(out) != want {
		t.Errorf("R4: with more behind: %s", told(out))
	}
	for i := range out {
		for j := range out[i] {
			out[i][j] = sem.Of(97)
		}
	}
	if told(again) != want {
		t.Errorf("R4: %s", told(again))
	}
}

func TestNilAndEmpty(t *testing.T) {
	p := node(t, "() returns (b: int); let b = 0 -> pre b + 1;")
	for _, ins := range [][][]sem.Value{nil, {}} {
		for _, name := range []string{"f", "sum", "both"} {
			if out, e := sem.Run(p, name, ins); len(out) != 0 || e != api.OK {
				t.Errorf("R3: %s: %v, %d", name, out, e)
			}
		}
	}
	for _, ins := range [][][]sem.Value{{nil, nil}, {{}, {}}, {{}, nil}} {
		if out, e := sem.Run(p, "f", ins); told(out) != "0 | 1" || e != api.OK {
			t.Errorf("R3: %s, %d", told(out), e)
		}
		if out, e := sem.Run(p, "sum", ins); out != nil || e != api.ErrArity {
			t.Errorf("R3: %s, %d", told(out), e)
		}
	}
	q := node(t, "() returns (b: int); let b = 0 -> pre b + 1;")
	for i := range q.Nodes {
		n := &q.Nodes[i]
		n.Ins, n.Locals = append([]ast.Variable{}, n.Ins...), append([]ast.Variable{}, n.Locals...)
		for j := range n.Eqs {
			n.Eqs[j].Rhs.Kids = append([]ast.Expr{}, n.Eqs[j].Rhs.Kids...)
		}
	}
	if out, e := sem.Run(q, "f", trace("- | - | -")); told(out) != "0 | 1 | 2" || e != api.OK {
		t.Errorf("R3: %s, %d", told(out), e)
	}
	for _, vars := range [][]ast.Variable{nil, {}} {
		for _, l := range [][]sem.Value{nil, {}} {
			if e := sem.Typed(vars, l); e != api.OK {
				t.Errorf("R3: Typed: %d", e)
			}
		}
	}
}

// TestEndless asks of an expression that is its own Kid, and of one that is
// much deeper than it may be.
func TestEndless(t *testing.T) {
	own := ast.Expr{Kind: ast.Bin, Op: ast.Add, Kids: make([]ast.Expr, 2)}
	own.Kids[0], own.Kids[1] = own, own
	deep := ast.Expr{}
	for range 1 << 16 {
		deep = ast.Expr{Kind: ast.Un, Kids: []ast.Expr{deep}}
	}
	for _, e := range []ast.Expr{own, deep, {Kind: -1}, {Kind: 99}, {Kind: ast.Un}, {Kind: ast.Bin, Op: 99, Kids: make([]ast.Expr, 2)}, {Kind: ast.If}, {Kind: ast.Call}} {
		p := node(t, "(a: int) returns (b: int); let b = a;")
		p.Nodes[3].Eqs[0].Rhs = e
		answers(t, "endless", p, "f", trace("5 | 6"), api.ErrArg, api.ErrArg)
	}
}

// TestLong runs nodes that call one another, one below the other.
func TestLong(t *testing.T) {
	var s strings.Builder
	s.WriteString("node f0(a: int) returns (b: int); let b = pre a; tel")
	for i := range 999 {
		s.WriteString(" node f" + strconv.Itoa(i+1) + "(a: int) returns (b: int); let b = f" + strconv.Itoa(i) + "(a + 1); tel")
	}
	p := program(t, s.String())
	slices.Reverse(p.Nodes)
	if w, e := sem.Weight(p, "f999"); w != 1000 || e != api.OK {
		t.Errorf("P9.2: Weight: %d, %d", w, e)
	}
	if out, e := sem.Run(p, "f999", trace("5 | 6 | 7")); told(out) != "nil | 1004 | 1005" || e != api.OK {
		t.Errorf("P9.2: %s, %d", told(out), e)
	}
}

// TestNothingIsKept asks again, with other things asked ahead of it.
func TestNothingIsKept(t *testing.T) {
	p := node(t, "(a: int) returns (b: int; c: bool); let b = sum(late(a)) -> pre sum(a) + count(); c = is(pre c => a > 5);")
	ins := trace("5 | 6 | 7 | 8")
	first, e := sem.Run(p, "f", ins)
	if e != api.OK || told(first) != "nil nil | 6 nil | 13 nil | 21 nil" {
		t.Fatalf("P9.2: %s, %d", told(first), e)
	}
	for seed := range uint64(200) {
		q, other := anyProgram(seed)
		for i, n := range q.Nodes {
			sem.Run(q, n.Name, other[i])
		}
		sem.Run(p, "f", trace("1 | 2 | true"))
		sem.Run(p, "f", trace("1 | 2"))
		sem.Run(p, "count", trace("- | - | -"))
		sem.Weight(p, "none")
		if again, e := sem.Run(p, "f", ins); e != api.OK || told(again) != told(first) {
			t.Fatalf("R6: %s, and then %s, %d", told(first), told(again), e)
		}
		if w, e := sem.Weight(p, "f"); w != 6 || e != api.OK {
			t.Fatalf("R6: Weight: %d, %d", w, e)
		}
	}
}
