package sketch_test

import (
	"math/rand/v2"
	"reflect"
	"testing"

	"shuttlecock/api"
	"shuttlecock/ast"
	"shuttlecock/diag"
	"shuttlecock/flow"
	"shuttlecock/sem"
	"shuttlecock/sketch"
)

func TestFile(t *testing.T) {
	got := sketch.File(`
		f a:int c:bool > b:int=#6.1 d:bool=c | 5 | true | neg a | not #1 | delay bool #3 | start #0 a | @g #2

		g a:int > b:bool=#0 d:int=#1 | <> a a | if #0 a #2 | mod a #2.0 | false
		h > b:int=#0 | + #0 #0
	`)
	in := func(port int) diag.Source { return diag.Source{Block: -1, Port: port} }
	from := func(all ...diag.Source) []diag.Source { return all }
	want := diag.File{Diagrams: []diag.Diagram{{
		Name: "f",
		Ins:  []diag.Port{{Name: "a"}, {Name: "c", Type: 1}},
		Outs: []diag.Out{{Port: diag.Port{Name: "b"}, From: diag.Source{Block: 6, Port: 1}}, {Port: diag.Port{Name: "d", Type: 1}, From: in(1)}},
		Blocks: []diag.Block{
			{N: 5}, {Kind: diag.Bool, N: 1}, {Kind: diag.Un, From: from(in(0))}, {Kind: diag.Un, Op: 1, From: from(diag.Source{Block: 1})},
			{Kind: diag.Delay, Op: 1, From: from(diag.Source{Block: 3})}, {Kind: diag.Start, From: from(diag.Source{}, in(0))},
			{Kind: diag.Sub, Sub: 1, From: from(diag.Source{Block: 2})},
		},
	}, {
		Name: "g",
		Ins:  []diag.Port{{Name: "a"}},
		Outs: []diag.Out{{Port: diag.Port{Name: "b", Type: 1}}, {Port: diag.Port{Name: "d"}, From: diag.Source{Block: 1}}},
		Blocks: []diag.Block{
			{Kind: diag.Bin, Op: ast.Ne, From: from(in(0), in(0))}, {Kind: diag.Choice, From: from(diag.Source{}, in(0), diag.Source{Block: 2})},
			{Kind: diag.Bin, Op: ast.Mod, From: from(in(0), diag.Source{Block: 2})}, {Kind: diag.Bool},
		},
	}, {
		Name:   "h",
		Outs:   []diag.Out{{Port: diag.Port{Name: "b"}}},
		Blocks: []diag.Block{{Kind: diag.Bin, Op: ast.Add, From: from(diag.Source{}, diag.Source{})}},
	}}}
	if !reflect.DeepEqual(got, want) {
		t.Errorf("%+v, not %+v", got, want)
	}
	if got := sketch.File(" \n "); len(got.Diagrams) != 0 {
		t.Errorf("of nothing: %+v", got)
	}
}

func TestTrace(t *testing.T) {
	got := sketch.Trace("5 true | - | nil -7 err")
	want := [][]sem.Value{{sem.Of(5), sem.Truth(true)}, nil, {{}, sem.Of(-7), {Kind: sem.Err}}}
	if !reflect.DeepEqual(got, want) {
		t.Errorf("%v, not %v", got, want)
	}
	for _, text := range []string{"", "-", "- | -", "5 true | - | nil -7 err"} {
		if got := sketch.Words(sketch.Trace(text)); got != text {
			t.Errorf("%q: %q", text, got)
		}
	}
	if sketch.Trace("") != nil {
		t.Error("of nothing")
	}
}

func TestWrongTexts(t *testing.T) {
	for _, text := range []string{"f a:real", "f > b:int=a", "f > b:int=#x", "f > b:int=#0.x", "f a:int | plus a a", "f a:int | delay a", "f | @g", "f a:int | neg b"} {
		func() {
			defer func() {
				if recover() == nil {
					t.Errorf("%q is a file", text)
				}
			}()
			sketch.File(text)
		}()
	}
	func() {
		defer func() {
			if recover() == nil {
				t.Error("5 x is a trace")
			}
		}()
		sketch.Trace("5 x")
	}()
}

// TestAny asks whether any files are sound, with blocks of each kind and op,
// and what may come in is of the types that are asked.
func TestAny(t *testing.T) {
	count := map[[2]int]int{}
	nested := 0
	for seed := range uint64(3000) {
		r := rand.New(rand.NewPCG(seed, 0))
		f := sketch.Any(r)
		x, e := flow.Check(f)
		if e != api.OK {
			t.Fatalf("seed %d: %d: %+v", seed, e, f)
		}
		if again := sketch.Any(rand.New(rand.NewPCG(seed, 0))); !reflect.DeepEqual(again, f) {
			t.Fatalf("seed %d: made twice, and not likewise", seed)
		}
		if order := x.Diagrams(); len(order) > 1 && order[0] != 0 {
			nested++
		}
		for _, d := range f.Diagrams {
			for _, b := range d.Blocks {
				count[[2]int{b.Kind, b.Op}]++
			}
			for _, l := range sketch.AnyTrace(r, d.Ins) {
				for i, v := range l {
					if v.Kind-sem.Int != d.Ins[i].Type || len(l) != len(d.Ins) {
						t.Fatalf("seed %d: %v", seed, l)
					}
				}
			}
		}
	}
	for kind, ops := range []int{1, 1, 2, 16, 2, 1, 1, 1} {
		for op := range ops {
			if n := count[[2]int{kind, op}]; n < 200 && (kind != diag.Bin || op != ast.Arrow) {
				t.Errorf("only %d of the kind %d, op %d", n, kind, op)
			}
		}
	}
	if nested < 200 {
		t.Errorf("only in %d a diagram behind it is the first one's block", nested)
	}
}

// TestLoose asks whether any loose files are right, with blocks of each kind,
// and with and without circles.
func TestLoose(t *testing.T) {
	kinds, sound := map[int]int{}, 0
	for seed := range uint64(3000) {
		f := sketch.Loose(rand.New(rand.NewPCG(seed, 0)))
		if !f.Right() {
			t.Fatalf("seed %d: not right: %+v", seed, f)
		}
		if again := sketch.Loose(rand.New(rand.NewPCG(seed, 0))); !reflect.DeepEqual(again, f) {
			t.Fatalf("seed %d: made twice, and not likewise", seed)
		}
		if _, e := flow.Check(f); e == api.OK {
			sound++
		}
		for _, d := range f.Diagrams {
			for _, b := range d.Blocks {
				kinds[b.Kind]++
			}
		}
	}
	for kind := range diag.Sub + 1 {
		if kinds[kind] < 1000 {
			t.Errorf("only %d of the kind %d", kinds[kind], kind)
		}
	}
	if sound > 1000 {
		t.Errorf("%d of 3000 are sound", sound)
	}
}
