package diag_test

import (
	"math"
	"slices"
	"testing"

	"shuttlecock/diag"
)

// differences are changes of one thing alone of a file.
var differences = map[string]func(*diag.File){
	"no diagrams":          func(f *diag.File) { f.Diagrams = nil },
	"a diagram less":       func(f *diag.File) { f.Diagrams = f.Diagrams[:2] },
	"a diagram more":       func(f *diag.File) { f.Diagrams = append(f.Diagrams, diag.Diagram{}) },
	"the diagrams' order":  func(f *diag.File) { d := f.Diagrams; d[0], d[2] = d[2], d[0] },
	"the first one's name": func(f *diag.File) { f.Diagrams[0].Name = "Pair" },
	"the last one's name":  func(f *diag.File) { f.Diagrams[2].Name += "\x00" },
	"no Ins":               func(f *diag.File) { f.Diagrams[1].Ins = nil },
	"an In less":           func(f *diag.File) { f.Diagrams[1].Ins = f.Diagrams[1].Ins[:1] },
	"an In more":           func(f *diag.File) { f.Diagrams[1].Ins = append(f.Diagrams[1].Ins, diag.Port{}) },
	"the Ins' order":       func(f *diag.File) { slices.Reverse(f.Diagrams[1].Ins) },
	"an In's name":         func(f *diag.File) { f.Diagrams[1].Ins[1].Name = "B" },
	"an In's Type":         func(f *diag.File) { f.Diagrams[1].Ins[0].Type = 1 },
	"no Outs":              func(f *diag.File) { f.Diagrams[1].Outs = nil },
	"an Out less":          func(f *diag.File) { f.Diagrams[1].Outs = f.Diagrams[1].Outs[:2] },
	"an Out more":          func(f *diag.File) { f.Diagrams[1].Outs = append(f.Diagrams[1].Outs, f.Diagrams[1].Outs[0]) },
	"the Outs' order":      func(f *diag.File) { slices.Reverse(f.Diagrams[1].Outs) },
	"an Out's name":        func(f *diag.File) { f.Diagrams[1].Outs[2].Port.Name = "" },
	"an Out's Type":        func(f *diag.File) { f.Diagrams[1].Outs[0].Port.Type = -5 },
	"an Out's block":       func(f *diag.File) { f.Diagrams[1].Outs[0].From.Block = 5 },
	"an Out's result":      func(f *diag.File) { f.Diagrams[1].Outs[1].From.Port = 0 },
	"no blocks":            func(f *diag.File) { f.Diagrams[1].Blocks = nil },
	"a block less":         func(f *diag.File) { f.Diagrams[1].Blocks = f.Diagrams[1].Blocks[:8] },
	"a block more":         func(f *diag.File) { f.Diagrams[1].Blocks = append(f.Diagrams[1].Blocks, diag.Block{}) },
	"the blocks' order":    func(f *diag.File) { slices.Reverse(f.Diagrams[1].Blocks) },
	"a block's kind":       func(f *diag.File) { f.Diagrams[1].Blocks[0].Kind = 1 },
	"a block's op":         func(f *diag.File) { f.Diagrams[1].Blocks[2].Op = 0 },
	"a block's diagram":    func(f *diag.File) { f.Diagrams[1].Blocks[8].Sub = 0 },
	"a block's number":     func(f *diag.File) { f.Diagrams[1].Blocks[0].N += 1 << 40 },
	"a block's X":          func(f *diag.File) { f.Diagrams[1].Blocks[8].X = math.MinInt32 },
	"a block's Y":          func(f *diag.File) { f.Diagrams[1].Blocks[8].Y = 1 },
	"X and Y":              func(f *diag.File) { b := &f.Diagrams[1].Blocks[0]; b.X, b.Y = b.Y, b.X },
	"no sources":           func(f *diag.File) { f.Diagrams[1].Blocks[7].From = nil },
	"a source less":        func(f *diag.File) { b := &f.Diagrams[1].Blocks[3]; b.From = b.From[:1] },
	"a source more":        func(f *diag.File) { b := &f.Diagrams[1].Blocks[3]; b.From = append(b.From, in(0)) },
	"the sources' order":   func(f *diag.File) { slices.Reverse(f.Diagrams[1].Blocks[3].From) },
	"a source's block":     func(f *diag.File) { f.Diagrams[1].Blocks[3].From[0].Block = 0 },
	"a source's result":    func(f *diag.File) { f.Diagrams[1].Blocks[6].From[2].Port = 0 },
	"the last source":      func(f *diag.File) { f.Diagrams[2].Blocks[0].From[2].Port = 7 },
}

func TestSame(t *testing.T) {
	if !small().Same(small()) {
		t.Error("P10.1: a file is not the same as it is")
	}
	for what, change := range differences {
		f, again := small(), small()
		change(&f)
		change(&again)
		if f.Same(small()) || small().Same(f) {
			t.Errorf("P10.1: %s: the same", what)
		}
		if !f.Same(f) || !f.Same(again) || !again.Same(f) {
			t.Errorf("P10.1: %s: not the same as it is", what)
		}
		for other, change := range differences {
			o := small()
			change(&o)
			if f.Same(o) != (what == other) || o.Same(f) != (what == other) {
				t.Errorf("P10.1: %s, and %s: %t", what, other, what != other)
			}
		}
	}
}

// TestSameOfWhatIsNotRight holds against one another what no file may have.
func TestSameOfWhatIsNotRight(t *testing.T) {
	of := func(b diag.Block) diag.File { return diag.File{Diagrams: []diag.Diagram{{Blocks: []diag.Block{b}}}} }
	all := []diag.Block{
		{}, {Kind: 8}, {Kind: -1}, {Kind: math.MinInt}, {Op: 77}, {Op: -77}, {Sub: 1}, {Sub: math.MaxInt}, {N: math.MinInt64}, {N: -1},
		{Kind: 8, Op: -77}, {From: []diag.Source{{}}}, {From: []diag.Source{{Block: math.MinInt}}}, {From: []diag.Source{{Port: math.MinInt}}},
	}
	for i, a := range all {
		for j, b := range all {
			if of(a).Same(of(b)) != (i == j) {
				t.Errorf("P10.1: %+v, and %+v: %t", a, b, i != j)
			}
		}
	}
}

func TestNilAndEmpty(t *testing.T) {
	for what, change := range map[string][2]func(*diag.File){
		"diagrams": {func(f *diag.File) { f.Diagrams = nil }, func(f *diag.File) { f.Diagrams = []diag.Diagram{} }},
		"Ins":      {func(f *diag.File) { f.Diagrams[2].Ins = nil }, func(f *diag.File) { f.Diagrams[2].Ins = []diag.Port{} }},
		"Outs":     {func(f *diag.File) { f.Diagrams[2].Outs = nil }, func(f *diag.File) { f.Diagrams[2].Outs = []diag.Out{} }},
		"blocks":   {func(f *diag.File) { f.Diagrams[0].Blocks = nil }, func(f *diag.File) { f.Diagrams[0].Blocks = []diag.Block{} }},
		"sources":  {func(f *diag.File) { f.Diagrams[1].Blocks[0].From = nil }, func(f *diag.File) { f.Diagrams[1].Blocks[0].From = []diag.Source{} }},
		"a diagram's sources": {
			func(f *diag.File) { f.Diagrams[1].Blocks[8].From = nil },
			func(f *diag.File) { f.Diagrams[1].Blocks[8].From = []diag.Source{} },
		},
		"an op's sources": {
			func(f *diag.File) { f.Diagrams[1].Blocks[2].From = nil },
			func(f *diag.File) { f.Diagrams[1].Blocks[2].From = []diag.Source{} },
		},
	} {
		f, o := small(), small()
		change[0](&f)
		change[1](&o)
		if !f.Same(o) || !o.Same(f) || f.Right() != o.Right() {
			t.Errorf("R3: %s that are nil, and empty", what)
		}
	}
}
