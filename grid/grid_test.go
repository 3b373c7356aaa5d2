package grid_test

import (
	"iter"
	"slices"
	"strconv"
	"strings"
	"testing"

	"shuttlecock/api"
	"shuttlecock/diag"
	"shuttlecock/grid"
	"shuttlecock/sketch"
)

// The calls have the signatures of the document.
var (
	_ func(diag.Diagram) ([]int, api.Errno)  = grid.Columns
	_ func(diag.Diagram) iter.Seq2[int, int] = grid.Edges
	_ func(diag.File) (diag.File, api.Errno) = grid.Place
)

// inDiagrams are what may be blocks of the diagrams that are asked of.
const inDiagrams = `
	two a:int c:bool > x:int=a y:bool=c
	none
`

// first is the first diagram of a text, behind which stand those of
// inDiagrams.
func first(text string) diag.Diagram {
	return sketch.File(text + inDiagrams).Diagrams[0]
}

// told are numbers as words.
func told(all []int) string {
	var words []string
	for _, n := range all {
		words = append(words, strconv.Itoa(n))
	}
	return strings.Join(words, " ")
}

// pairs are those of a walk, as words.
func pairs(walk iter.Seq2[int, int]) string {
	var words []string
	for i, j := range walk {
		words = append(words, strconv.Itoa(i)+"-"+strconv.Itoa(j))
	}
	return strings.Join(words, " ")
}

// known are diagrams, their columns, or none, if there is a circle, and the
// pairs of their blocks.
var known = []struct{ text, columns, pairs string }{
	{"f", "", ""},
	{"f a:int > b:int=a", "", ""},
	{"f a:int > b:int=#1 | delay int a | + #0 #0", "0 1", "1-0 1-0"}, // the chapter's example
	{"f | 5", "0", ""},
	{"f | true", "0", ""},
	{"f a:int | neg a", "0", ""},
	{"f a:int | + a a", "0", ""},
	{"f a:int | start a a", "0", ""},
	{"f a:int c:bool | if c a a", "0", ""},
	{"f | @none", "0", ""},
	{"f a:int c:bool | @two a c", "0", ""},
	{"f a:int | delay int a", "0", ""},
	{"f | 5 | neg #0", "0 1", "1-0"},
	{"f | 5 | true | not #1 | + #0 #0 | start #3 #0 | if #2 #3 #4", "0 0 1 1 2 3", "2-1 3-0 3-0 4-3 4-0 5-2 5-3 5-4"},
	{"f | 5 | true | @two #0 #1 | neg #2 | not #2.1 | @two #3 #2.1", "0 0 1 2 2 3", "2-0 2-1 3-2 4-2 5-3 5-2"},
	{"f | neg #1 | 5", "1 0", "0-1"},
	{"f | neg #1 | neg #2 | neg #3 | 5", "3 2 1 0", "0-1 1-2 2-3"},
	{"f | + #1 #2 | neg #2 | 5 | + #2 #0", "2 1 0 3", "0-1 0-2 1-2 3-2 3-0"},
	{"f | + #2 #1 | neg #2 | 5 | + #0 #2", "2 1 0 3", "0-2 0-1 1-2 3-0 3-2"},
	{"f | 5 | delay int #0 | neg #1", "0 0 1", "2-1"},
	{"f | 5 | neg #0 | neg #1 | delay int #2 | neg #3", "0 1 2 0 1", "1-0 2-1 4-3"},
	{"f | delay int #0", "0", ""},
	{"f | delay int #1 | delay int #0", "0 0", ""},
	{"f | delay int #1 | neg #0", "0 1", "1-0"},
	{"f | neg #1 | delay int #0", "1 0", "0-1"},
	{"f a:int > b:int=#0 | start a #1 | + a #2 | delay int #0", "2 1 0", "0-1 1-2"},
	{"f c:bool | if c #0 #1 | 5", "none", "0-0 0-1"},
	{"f | neg #0", "none", "0-0"},
	{"f | + #0 #0", "none", "0-0 0-0"},
	{"f | start #1 #0 | 5", "none", "0-1 0-0"},
	{"f c:bool | @two #0 c", "none", "0-0"},
	{"f | neg #1 | neg #0", "none", "0-1 1-0"},
	{"f | 5 | neg #2 | neg #3 | + #0 #1", "none", "1-2 2-3 3-0 3-1"},
	{"f | 5 | neg #0 | neg #1 | neg #3", "none", "1-0 2-1 3-3"},
	{"f | neg #1 | 5 | + #2 #1 | delay int #0", "none", "0-1 2-2 2-1"},
	{"f | neg #1 | delay int #0 | neg #3 | neg #2", "none", "0-1 2-3 3-2"},
}

func TestColumns(t *testing.T) {
	for _, c := range known {
		columns, e := grid.Columns(first(c.text))
		if c.columns == "none" {
			if len(columns) != 0 || e != api.ErrCycle {
				t.Errorf("P14.1: Columns of %s: %v, %d, not nothing and %d", c.text, columns, e, api.ErrCycle)
			}
			continue
		}
		if told(columns) != c.columns || e != api.OK {
			t.Errorf("P14.1: Columns of %s: %v, %d, not %s", c.text, columns, e, c.columns)
		}
	}
}

func TestEdges(t *testing.T) {
	for _, c := range known {
		if got := pairs(grid.Edges(first(c.text))); got != c.pairs {
			t.Errorf("P14.1: Edges of %s: %s, not %s", c.text, got, c.pairs)
		}
	}
}

// TestWalksStop stops a walk behind each pair, and walks on anew.
func TestWalksStop(t *testing.T) {
	for _, c := range known {
		walk := grid.Edges(first(c.text))
		all := strings.Fields(c.pairs)
		for stop := range len(all) + 1 {
			var got []string
			walk(func(i, j int) bool {
				got = append(got, strconv.Itoa(i)+"-"+strconv.Itoa(j))
				return len(got) <= stop
			})
			if want := all[:min(stop+1, len(all))]; !slices.Equal(got, want) {
				t.Errorf("P14.1: Edges of %s, stopped: %v, not %v", c.text, got, want)
			}
		}
		if got := pairs(walk); got != c.pairs {
			t.Errorf("P14.1: Edges of %s, again: %s, not %s", c.text, got, c.pairs)
		}
		n := 0
		for range walk {
			if got := pairs(walk); got != c.pairs {
				t.Errorf("P14.1: Edges of %s, in another walk: %s, not %s", c.text, got, c.pairs)
			}
			n++
		}
		if n != len(all) {
			t.Errorf("P14.1: Edges of %s, with others in it: %d pairs, not %d", c.text, n, len(all))
		}
	}
}

// placed are the places of a diagram's blocks, as words.
func placed(d diag.Diagram) string {
	var words []string
	for _, b := range d.Blocks {
		words = append(words, strconv.Itoa(int(b.X))+","+strconv.Itoa(int(b.Y)))
	}
	return strings.Join(words, " ")
}

func TestPlace(t *testing.T) {
	for _, c := range []struct{ text, want string }{
		{"f", ""},
		{"f | 5", "0,0"},
		{"f | 5 | 6 | true", "0,0 0,1 0,2"},
		{"f a:int | delay int a | + #0 #0", "0,0 1,0"},
		{"f | neg #1 | 5", "1,0 0,0"},
		{"f | 5 | neg #0 | 6 | neg #2 | + #1 #3 | neg #0", "0,0 1,0 0,1 1,1 2,0 1,2"},
		{"f | neg #3 | neg #3 | neg #0 | 5 | neg #1 | delay int #5", "1,0 1,1 2,0 0,0 2,1 0,1"},
		{"f | neg #1 | neg #2 | 5 | neg #0 | 6", "2,0 1,0 0,0 3,0 0,1"},
		{"f a:int > b:int=#0 | start a #1 | + a #2 | delay int #0", "2,0 1,0 0,0"},
		{"f a:int c:bool | @two a c | @two #0 #0.1 | @none | @none", "0,0 1,0 0,1 0,2"},
	} {
		f := sketch.File(c.text + inDiagrams)
		f.Diagrams = append(f.Diagrams, f.Diagrams[0])
		got, e := grid.Place(f)
		if e != api.OK || len(got.Diagrams) != 4 {
			t.Errorf("P14.2: Place of %s: %d, %+v", c.text, e, got)
			continue
		}
		for _, i := range []int{0, 3} {
			if placed(got.Diagrams[i]) != c.want {
				t.Errorf("P14.2: Place of %s: %s, not %s", c.text, placed(got.Diagrams[i]), c.want)
			}
		}
	}
}

func TestPlaceOfCircles(t *testing.T) {
	for _, c := range known {
		f := sketch.File(c.text + inDiagrams + "last | 5 | neg #0")
		last := sketch.File(inDiagrams + "last | 5 | neg #0\n" + c.text)
		for _, f := range []diag.File{f, last} {
			got, e := grid.Place(f)
			switch {
			case c.columns == "none":
				if e != api.ErrCycle || len(got.Diagrams) != 0 {
					t.Errorf("P14.2: Place of %s: %d, %+v, not nothing and %d", c.text, e, got, api.ErrCycle)
				}
			case e != api.OK || len(got.Diagrams) != len(f.Diagrams):
				t.Errorf("P14.2: Place of %s: %d, %+v", c.text, e, got)
			}
		}
	}
}

// TestPlaceOfDiagrams asks of diagrams that have one another, or themselves:
// that is no circle of blocks.
func TestPlaceOfDiagrams(t *testing.T) {
	f := sketch.File("f a:int > b:int=#0 | @g a | neg #0 \n g a:int > b:int=#1 | 5 | @f #0 | @g #1")
	got, e := grid.Place(f)
	if e != api.OK || placed(got.Diagrams[0]) != "0,0 1,0" || placed(got.Diagrams[1]) != "0,0 1,0 2,0" {
		t.Errorf("P14.2: %d, %+v", e, got)
	}
}

func TestPlaceOfWhatIsNotRight(t *testing.T) {
	for what, change := range map[string]func(d *diag.Diagram){
		"a kind":          func(d *diag.Diagram) { d.Blocks[0].Kind = 8 },
		"a number":        func(d *diag.Diagram) { d.Blocks[0].N = -1 },
		"an op":           func(d *diag.Diagram) { d.Blocks[1].Op = 2 },
		"a source less":   func(d *diag.Diagram) { d.Blocks[1].From = nil },
		"a source more":   func(d *diag.Diagram) { d.Blocks[0].From = []diag.Source{{Block: -1}} },
		"a block":         func(d *diag.Diagram) { d.Blocks[1].From[0].Block = 2 },
		"a block below":   func(d *diag.Diagram) { d.Blocks[1].From[0].Block = -2 },
		"a result":        func(d *diag.Diagram) { d.Blocks[1].From[0].Port = 1 },
		"an in-port":      func(d *diag.Diagram) { d.Blocks[1].From[0] = diag.Source{Block: -1, Port: 1} },
		"an Out's source": func(d *diag.Diagram) { d.Outs[0].From.Block = 3 },
		"a Type":          func(d *diag.Diagram) { d.Ins[0].Type = 2 },
		"a long name":     func(d *diag.Diagram) { d.Name = strings.Repeat("n", 65536) },
	} {
		for _, other := range []string{"", "circle | neg #0\n", "circle | neg #1 | neg #0\n"} {
			f := sketch.File(other + "f a:int > b:int=#0 | 5 | neg #0")
			change(&f.Diagrams[len(f.Diagrams)-1])
			if got, e := grid.Place(f); e != api.ErrArg || len(got.Diagrams) != 0 {
				t.Errorf("P14.2: Place with %s: %d, %+v, not nothing and %d", what, e, got, api.ErrArg)
			}
		}
	}
}

// great is a diagram of very many blocks, of each of which a block is told on
// which it hangs, or itself, if on none.
func great(many int, on func(i int) int) diag.Diagram {
	d := diag.Diagram{Blocks: make([]diag.Block, many)}
	for i := range d.Blocks {
		if j := on(i); j != i {
			d.Blocks[i] = diag.Block{Kind: diag.Un, From: []diag.Source{{Block: j}}}
		}
	}
	return d
}

// TestMuch asks of diagrams of 2^19 blocks: each hangs on the next one, or on
// that ahead of it, on one behind, on one for all, or on none.
func TestMuch(t *testing.T) {
	const many = 1 << 19
	for what, c := range map[string]struct{ on, column, row func(i int) int }{
		"each on that ahead": {
			func(i int) int { return max(i-1, 0) }, func(i int) int { return i }, func(int) int { return 0 },
		},
		"each on the next one": {
			func(i int) int { return min(i+1, many-1) }, func(i int) int { return many - 1 - i }, func(int) int { return 0 },
		},
		"the first half on the second": {
			func(i int) int { return i | many/2 }, func(i int) int { return 1 - i/(many/2) }, func(i int) int { return i % (many / 2) },
		},
		"all on the last": {
			func(i int) int { return many - 1 }, func(i int) int { return min(1, many-1-i) }, func(i int) int { return i % (many - 1) },
		},
		"none": {
			func(i int) int { return i }, func(int) int { return 0 }, func(i int) int { return i },
		},
	} {
		d := great(many, c.on)
		columns, e := grid.Columns(d)
		if e != api.OK || len(columns) != many {
			t.Errorf("P14.1: %s: %d columns, %d", what, len(columns), e)
			continue
		}
		f, e := grid.Place(diag.File{Diagrams: []diag.Diagram{d}})
		if e != api.OK {
			t.Errorf("P14.2: %s: %d", what, e)
			continue
		}
		for i, column := range columns {
			b := f.Diagrams[0].Blocks[i]
			if column != c.column(i) || int(b.X) != column || int(b.Y) != c.row(i) {
				t.Fatalf("P14.2: %s: the block %d is in column %d, at %d, %d", what, i, column, b.X, b.Y)
			}
		}
	}
	d := great(many, func(i int) int { return (i + 1) % many })
	if columns, e := grid.Columns(d); len(columns) != 0 || e != api.ErrCycle {
		t.Errorf("P14.1: a circle of all: %d columns, %d", len(columns), e)
	}
}
