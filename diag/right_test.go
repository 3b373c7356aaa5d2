package diag_test

import (
	"math"
	"slices"
	"strings"
	"testing"

	"shuttlecock/diag"
)

// plain is what the document says of a block's parts and number of sources, in
// a file of so many diagrams.
func plain(b diag.Block, diagrams int) bool {
	op, sub, n, from := b.Op == 0, b.Sub == 0, b.N == 0, 0
	switch b.Kind {
	case 0:
		n = b.N >= 0
	case 1:
		n = b.N == 0 || b.N == 1
	case 2:
		op, from = b.Op == 0 || b.Op == 1, 1
	case 3:
		op, from = b.Op >= 1 && b.Op <= 15, 2
	case 4:
		op, from = b.Op == 0 || b.Op == 1, 1
	case 5:
		from = 2
	case 6:
		from = 3
	case 7:
		sub, from = b.Sub >= 0 && b.Sub < diagrams, len(b.From)
	default:
		return false
	}
	return op && sub && n && from == len(b.From)
}

// around is a block in a file: itself the last one of its diagram, in the
// middle of three.
func around(b diag.Block) diag.File {
	d := diag.Diagram{Ins: make([]diag.Port, 1), Blocks: []diag.Block{{}, b}}
	return diag.File{Diagrams: []diag.Diagram{{}, d, {}}}
}

func TestEachKindWithEachPart(t *testing.T) {
	count := map[int]int{}
	for kind := -2; kind < 11; kind++ {
		for op := -2; op < 19; op++ {
			for _, sub := range []int{math.MinInt, -1, 0, 1, 2, 3, math.MaxInt} {
				for _, n := range []int64{math.MinInt64, -1, 0, 1, 2, math.MaxInt64} {
					for from := range 6 {
						b := diag.Block{Kind: kind, Op: op, Sub: sub, N: n, From: make([]diag.Source, from)}
						if around(b).Right() != plain(b, 3) {
							t.Errorf("P10.1: %+v: %t", b, !plain(b, 3))
						}
						if plain(b, 3) {
							count[kind]++
						}
					}
				}
			}
		}
	}
	for kind, want := range []int{4, 2, 2, 15, 2, 1, 1, 3 * 6} {
		if count[kind] != want {
			t.Errorf("%d of the kind %d are right, not %d", count[kind], kind, want)
		}
	}
}

func TestExtremes(t *testing.T) {
	from := make([]diag.Source, 3)
	for kind := range 8 {
		b := small().Diagrams[1].Blocks[kind]
		b.From = from[:len(b.From)]
		for what, wrong := range map[string]func(*diag.Block){
			"the kind above all": func(b *diag.Block) { b.Kind = math.MaxInt },
			"the kind below all": func(b *diag.Block) { b.Kind = math.MinInt },
			"the op above all":   func(b *diag.Block) { b.Op = math.MaxInt },
			"the op below all":   func(b *diag.Block) { b.Op = math.MinInt },
			"the op -1":          func(b *diag.Block) { b.Op = -1 },
			"the op 16":          func(b *diag.Block) { b.Op = 16 },
			"the N below 0":      func(b *diag.Block) { b.N = -1 },
		} {
			b := b
			wrong(&b)
			if around(b).Right() {
				t.Errorf("P10.1: %s, of the kind %d: right", what, kind)
			}
		}
		for _, x := range []int32{math.MinInt32, -1, 0, 1, math.MaxInt32} {
			for _, y := range []int32{math.MinInt32, -1, 0, 1, math.MaxInt32} {
				b.X, b.Y = x, y
				if !around(b).Right() {
					t.Errorf("P10.1: the kind %d at %d, %d: not right", kind, x, y)
				}
			}
		}
	}
}

// sources are those that there are in the diagram 1 of small.
func sources() []diag.Source {
	all := []diag.Source{in(0), in(1)}
	for block := range 7 {
		all = append(all, at(block, 0))
	}
	return append(all, at(7, 0), at(7, 1))
}

func TestSources(t *testing.T) {
	numbers := []int{math.MinInt, -3, -2, -1, 0, 1, 2, 3, 4, 5, 6, 7, 8, 9, 10, math.MaxInt}
	for _, block := range numbers {
		for _, port := range numbers {
			s := at(block, port)
			want := slices.Contains(sources(), s)
			for i := range small().Diagrams[1].Blocks {
				for j := range small().Diagrams[1].Blocks[i].From {
					f := small()
					f.Diagrams[1].Blocks[i].From[j] = s
					if f.Right() != want {
						t.Errorf("P10.1: the source %d of the block %d is %v: %t", j, i, s, !want)
					}
				}
			}
			for i := range small().Diagrams[1].Outs {
				f := small()
				f.Diagrams[1].Outs[i].From = s
				if f.Right() != want {
					t.Errorf("P10.1: the Out %d comes from %v: %t", i, s, !want)
				}
			}
		}
	}
}

// TestResultsOfOthers asks of sources that there are or not by what goes out
// of another diagram, or of the diagram itself.
func TestResultsOfOthers(t *testing.T) {
	for results := range 4 {
		for port := -1; port < 5; port++ {
			want := port >= 0 && port < results
			for _, ahead := range []bool{true, false} {
				other := diag.Diagram{Ins: make([]diag.Port, 1), Outs: outs(results)}
				sub := diag.Block{Kind: diag.Sub, Sub: 1}
				one := diag.Diagram{Blocks: []diag.Block{{Kind: diag.Delay, From: []diag.Source{at(1, port)}}, sub}}
				f := diag.File{Diagrams: []diag.Diagram{one, other}}
				if ahead {
					f.Diagrams[1].Blocks, f.Diagrams[0].Blocks = f.Diagrams[0].Blocks, nil
				}
				if f.Right() != want {
					t.Errorf("P10.1: the result %d of a diagram that has %d: %t", port, results, !want)
				}
			}
		}
	}
}

// faults are changes of a diagram that make a file one that is not right.
var faults = map[string]func(*diag.Diagram){
	"a name of 65536 bytes":          func(d *diag.Diagram) { d.Name = strings.Repeat("x", 65536) },
	"the first In's name":            func(d *diag.Diagram) { d.Ins[0].Name = strings.Repeat("x", 65536) },
	"the last In's name":             func(d *diag.Diagram) { d.Ins[1].Name = strings.Repeat("x", 65536) },
	"the first Out's name":           func(d *diag.Diagram) { d.Outs[0].Port.Name = strings.Repeat("x", 65536) },
	"the last Out's name":            func(d *diag.Diagram) { d.Outs[2].Port.Name = strings.Repeat("x", 100000) },
	"the first In's Type above 1":    func(d *diag.Diagram) { d.Ins[0].Type = 2 },
	"the last In's Type below 0":     func(d *diag.Diagram) { d.Ins[1].Type = -1 },
	"the first Out's Type below 0":   func(d *diag.Diagram) { d.Outs[0].Port.Type = -1 },
	"the last Out's Type above 1":    func(d *diag.Diagram) { d.Outs[2].Port.Type = 2 },
	"a Type of the greatest one":     func(d *diag.Diagram) { d.Ins[0].Type = math.MaxInt },
	"a Type of the least one":        func(d *diag.Diagram) { d.Outs[0].Port.Type = math.MinInt },
	"an in-port less":                func(d *diag.Diagram) { d.Ins = d.Ins[:1] },
	"a block less":                   func(d *diag.Diagram) { d.Blocks = d.Blocks[:7] },
	"no blocks":                      func(d *diag.Diagram) { d.Blocks = nil },
	"the first block's kind":         func(d *diag.Diagram) { d.Blocks[0].Kind = 8 },
	"the last block's kind":          func(d *diag.Diagram) { d.Blocks[8].Kind = -1 },
	"an int with an op":              func(d *diag.Diagram) { d.Blocks[0].Op = 1 },
	"an int with a diagram":          func(d *diag.Diagram) { d.Blocks[0].Sub = 1 },
	"an int of a source":             func(d *diag.Diagram) { d.Blocks[0].From = []diag.Source{in(0)} },
	"a bool of 2":                    func(d *diag.Diagram) { d.Blocks[1].N = 2 },
	"pre as an op of one":            func(d *diag.Diagram) { d.Blocks[2].Op = 2 },
	"the arrow as an op of two":      func(d *diag.Diagram) { d.Blocks[3].Op = 0 },
	"an op of two with a number":     func(d *diag.Diagram) { d.Blocks[3].N = 1 },
	"a delay of the type 2":          func(d *diag.Diagram) { d.Blocks[4].Op = 2 },
	"a start with an op":             func(d *diag.Diagram) { d.Blocks[5].Op = 1 },
	"a start of one source":          func(d *diag.Diagram) { d.Blocks[5].From = d.Blocks[5].From[:1] },
	"a choice of two sources":        func(d *diag.Diagram) { d.Blocks[6].From = d.Blocks[6].From[:2] },
	"a choice of four sources":       func(d *diag.Diagram) { d.Blocks[6].From = append(d.Blocks[6].From, in(0)) },
	"a diagram that there is not":    func(d *diag.Diagram) { d.Blocks[8].Sub = 9 },
	"a diagram below 0":              func(d *diag.Diagram) { d.Blocks[8].Sub = -1 },
	"a diagram of the greatest one":  func(d *diag.Diagram) { d.Blocks[8].Sub = math.MaxInt },
	"a diagram with an op":           func(d *diag.Diagram) { d.Blocks[8].Op = 1 },
	"a diagram with a number":        func(d *diag.Diagram) { d.Blocks[8].N = 1 },
	"a diagram's last source":        func(d *diag.Diagram) { d.Blocks[7].From[1] = at(9, 0) },
	"a result of what has none":      func(d *diag.Diagram) { d.Outs[1].From = at(8, 0) },
	"a result of too little":         func(d *diag.Diagram) { d.Blocks[7].Sub = 2 },
	"an Out of no in-port":           func(d *diag.Diagram) { d.Outs[2].From = in(2) },
	"an Out of a block ahead of all": func(d *diag.Diagram) { d.Outs[0].From = at(-2, 0) },
}

func TestNotRight(t *testing.T) {
	if !small().Right() {
		t.Fatal("P10.1: the file is not right")
	}
	for what, change := range faults {
		f := small()
		change(&f.Diagrams[1])
		if f.Right() {
			t.Errorf("P10.1: %s: right", what)
		}
		last := small()
		last.Diagrams = append(last.Diagrams, f.Diagrams[1])
		if last.Right() {
			t.Errorf("P10.1: %s, in the last diagram: right", what)
		}
	}
	for i := range 3 {
		f := small()
		f.Diagrams[i].Name = strings.Repeat("x", 65536)
		if f.Right() {
			t.Errorf("P10.1: a name of 65536 bytes of the diagram %d: right", i)
		}
	}
}

// TestRight asks of changes that leave a file right.
func TestRight(t *testing.T) {
	for what, change := range map[string]func(*diag.File){
		"nothing":          func(*diag.File) {},
		"no diagrams":      func(f *diag.File) { f.Diagrams = nil },
		"one that is bare": func(f *diag.File) { f.Diagrams = []diag.Diagram{{}} },
		"no names": func(f *diag.File) {
			d := &f.Diagrams[1]
			d.Name, d.Ins[0].Name, d.Ins[1].Name, d.Outs[0].Port.Name = "", "", "", ""
		},
		"names of any bytes":   func(f *diag.File) { f.Diagrams[1].Name, f.Diagrams[1].Ins[0].Name = "\x00\xff", "a b\n" },
		"names of 65535 bytes": func(f *diag.File) { f.Diagrams[1].Name = strings.Repeat("x", 65535) },
		"an In of 65535 bytes": func(f *diag.File) { f.Diagrams[1].Ins[1].Name = strings.Repeat("\x00", 65535) },
		"an Out of that":       func(f *diag.File) { f.Diagrams[1].Outs[2].Port.Name = strings.Repeat("é", 65534/2) },
		"words as names":       func(f *diag.File) { f.Diagrams[1].Name, f.Diagrams[1].Outs[0].Port.Name = "node", "1" },
		"all of one name": func(f *diag.File) {
			f.Diagrams[0].Name, f.Diagrams[1].Name = "none", "none"
			f.Diagrams[1].Ins[0].Name, f.Diagrams[1].Ins[1].Name = "c", "c"
		},
		"no Outs where nothing comes from": func(f *diag.File) { f.Diagrams[2].Outs = []diag.Out{} },
		"a block of itself":                func(f *diag.File) { f.Diagrams[1].Blocks[3].From[1] = at(3, 0) },
		"other types":                      func(f *diag.File) { f.Diagrams[1].Outs[0].Port.Type, f.Diagrams[1].Ins[0].Type = 1, 1 },
		"a diagram of itself":              func(f *diag.File) { f.Diagrams[1].Blocks[8].Sub = 1 },
		"a diagram of fewer sources":       func(f *diag.File) { f.Diagrams[1].Blocks[7].From = nil },
		"a diagram of more sources":        func(f *diag.File) { f.Diagrams[1].Blocks[8].From = slices.Repeat([]diag.Source{in(1)}, 2000) },
		"2000 diagrams":                    func(f *diag.File) { f.Diagrams = append(f.Diagrams, make([]diag.Diagram, 1997)...) },
	} {
		f := small()
		change(&f)
		if !f.Right() {
			t.Errorf("P10.1: %s: not right", what)
		}
	}
}

// TestLists asks of lists that have as much as they may, and more.
func TestLists(t *testing.T) {
	if testing.Short() {
		t.Skip("the lists take up to 1.5 GB")
	}
	const most = 1<<24 - 1
	of := func(d diag.Diagram) diag.File { return diag.File{Diagrams: []diag.Diagram{d}} }
	for what, put := range map[string]func(many int) diag.File{
		"diagrams": func(many int) diag.File { return diag.File{Diagrams: make([]diag.Diagram, many)} },
		"Ins":      func(many int) diag.File { return of(diag.Diagram{Ins: make([]diag.Port, many)}) },
		"Outs": func(many int) diag.File {
			return of(diag.Diagram{Outs: make([]diag.Out, many), Blocks: make([]diag.Block, 1)})
		},
		"blocks": func(many int) diag.File { return of(diag.Diagram{Blocks: make([]diag.Block, many)}) },
		"sources": func(many int) diag.File {
			return of(diag.Diagram{Blocks: []diag.Block{{}, {Kind: diag.Sub, From: make([]diag.Source, many)}}})
		},
	} {
		if !put(most).Right() {
			t.Errorf("P10.1: 2^24 - 1 %s: not right", what)
		}
		if put(most + 1).Right() {
			t.Errorf("P10.1: 2^24 %s: right", what)
		}
	}
}
