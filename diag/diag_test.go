package diag_test

import (
	"math"
	"testing"

	"shuttlecock/diag"
)

// The calls have the signatures of the document.
var _ interface {
	Right() bool
	Same(diag.File) bool
	Results(diag.Block) int
} = diag.File{}

// The structs have the fields of the document, and no others (R3).
var (
	_ = struct{ Block, Port int }(diag.Source{})
	_ = struct {
		Name string
		Type int
	}(diag.Port{})
	_ = struct {
		Port diag.Port
		From diag.Source
	}(diag.Out{})
	_ = struct {
		Kind, Op, Sub int
		N             int64
		X, Y          int32
		From          []diag.Source
	}(diag.Block{})
	_ = struct {
		Name   string
		Ins    []diag.Port
		Outs   []diag.Out
		Blocks []diag.Block
	}(diag.Diagram{})
	_ = struct{ Diagrams []diag.Diagram }(diag.File{})
)

func TestKinds(t *testing.T) {
	for want, kind := range []int{diag.Int, diag.Bool, diag.Un, diag.Bin, diag.Delay, diag.Start, diag.Choice, diag.Sub} {
		if kind != want {
			t.Errorf("P10.1: the kind %d is %d", want, kind)
		}
	}
}

// in is the in-port of a number, and at a block's result.
func in(port int) diag.Source { return diag.Source{Block: -1, Port: port} }

func at(block, port int) diag.Source { return diag.Source{Block: block, Port: port} }

// outs are so many, all of the in-port 0.
func outs(many int) []diag.Out {
	all := make([]diag.Out, many)
	for i := range all {
		all[i].From = in(0)
	}
	return all
}

// small is a file of three diagrams with all that a file may have. Each one is
// made anew.
func small() diag.File {
	ins := func() []diag.Port { return []diag.Port{{Name: "a"}, {Name: "b", Type: 1}} }
	return diag.File{Diagrams: []diag.Diagram{
		{Name: "pair", Ins: ins(), Outs: []diag.Out{{Port: diag.Port{Name: "x"}, From: in(0)}, {Port: diag.Port{Name: "y", Type: 1}, From: in(1)}}},
		{
			Name: "all",
			Ins:  ins(),
			Outs: []diag.Out{
				{Port: diag.Port{Name: "c"}, From: at(3, 0)},
				{Port: diag.Port{Name: "d", Type: 1}, From: at(7, 1)},
				{Port: diag.Port{Name: "e", Type: 1}, From: in(1)},
			},
			Blocks: []diag.Block{
				{Kind: diag.Int, N: 5, X: 1, Y: 2},
				{Kind: diag.Bool, N: 1, X: -1},
				{Kind: diag.Un, Op: 1, From: []diag.Source{at(1, 0)}},
				{Kind: diag.Bin, Op: 11, From: []diag.Source{in(0), at(5, 0)}},
				{Kind: diag.Delay, Op: 1, From: []diag.Source{at(2, 0)}},
				{Kind: diag.Start, From: []diag.Source{at(0, 0), at(3, 0)}},
				{Kind: diag.Choice, From: []diag.Source{in(1), at(4, 0), at(7, 1)}, Y: 9},
				{Kind: diag.Sub, Sub: 0, From: []diag.Source{at(7, 0), at(6, 0)}},
				{Kind: diag.Sub, Sub: 2},
			},
		},
		{Name: "none", Blocks: []diag.Block{{Kind: diag.Sub, Sub: 1, From: []diag.Source{at(0, 0), at(0, 1), at(0, 2)}}}},
	}}
}

func TestResults(t *testing.T) {
	f := diag.File{Diagrams: []diag.Diagram{{Outs: outs(2)}, {}, {Outs: outs(1)}, {Outs: outs(1000)}}}
	subs := map[int]int{0: 2, 1: 0, 2: 1, 3: 1000, -1: 0, 4: 0, 7: 0, math.MinInt: 0, math.MaxInt: 0}
	for sub, many := range subs {
		for kind := -3; kind < 12; kind++ {
			want := 0
			switch {
			case kind == diag.Sub:
				want = many
			case kind >= diag.Int && kind < diag.Sub:
				want = 1
			}
			for _, b := range []diag.Block{
				{Kind: kind, Sub: sub},
				{Kind: kind, Sub: sub, Op: -1, N: -1, X: 3, Y: 4, From: []diag.Source{{}, {}}},
			} {
				if got := f.Results(b); got != want {
					t.Errorf("P10.1: the kind %d of the diagram %d has %d results, not %d", kind, sub, got, want)
				}
			}
		}
	}
	for _, kind := range []int{math.MinInt, math.MaxInt} {
		if got := f.Results(diag.Block{Kind: kind}); got != 0 {
			t.Errorf("P10.1: the kind %d has %d results", kind, got)
		}
	}
	for _, empty := range []diag.File{{}, {Diagrams: []diag.Diagram{}}} {
		for sub := -1; sub < 2; sub++ {
			if empty.Results(diag.Block{Kind: diag.Sub, Sub: sub}) != 0 || empty.Results(diag.Block{Kind: diag.Delay, Sub: sub}) != 1 {
				t.Errorf("P10.1: the diagram %d of a file without any", sub)
			}
		}
	}
}
