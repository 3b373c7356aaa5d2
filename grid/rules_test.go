package grid_test

import (
	"math"
	"math/rand/v2"
	"reflect"
	"slices"
	"strconv"
	"strings"
	"testing"

	"shuttlecock/api"
	"shuttlecock/diag"
	"shuttlecock/grid"
	"shuttlecock/sketch"
)

// hangs are, of each block, those on which it hangs at once, in the order of
// its sources.
func hangs(d diag.Diagram) [][]int {
	all := make([][]int, len(d.Blocks))
	for i, b := range d.Blocks {
		for _, s := range b.From {
			if s.Block != -1 && b.Kind != diag.Delay {
				all[i] = append(all[i], s.Block)
			}
		}
	}
	return all
}

// column is a block's column, by way of all on which it hangs; -1, if it comes
// back to a block of the way.
func column(on [][]int, i int, way []int) int {
	if slices.Contains(way, i) {
		return -1
	}
	greatest := 0
	for _, j := range on[i] {
		c := column(on, j, append(way, i))
		if c < 0 {
			return -1
		}
		greatest = max(greatest, c+1)
	}
	return greatest
}

// columns are all of them; false, if a block hangs on itself.
func columns(on [][]int) ([]int, bool) {
	var all []int
	for i := range on {
		c := column(on, i, nil)
		if c < 0 {
			return nil, false
		}
		all = append(all, c)
	}
	return all, true
}

// words are the pairs of blocks that hang on one another.
func words(on [][]int) string {
	var all []string
	for i, l := range on {
		for _, j := range l {
			all = append(all, strconv.Itoa(i)+"-"+strconv.Itoa(j))
		}
	}
	return strings.Join(all, " ")
}

// holds asks of a diagram both which columns it has, and which pairs; it tells
// whether there is no circle.
func holds(t *testing.T, d diag.Diagram) bool {
	t.Helper()
	on := hangs(d)
	want, is := columns(on)
	e := api.OK
	if !is {
		e = api.ErrCycle
	}
	if got, again := grid.Columns(d); told(got) != told(want) || again != e {
		t.Fatalf("P14.1: Columns: %v, %d, not %v, %d: %+v", got, again, want, e, d)
	}
	if got := pairs(grid.Edges(d)); got != words(on) {
		t.Fatalf("P14.1: Edges: %s, not %s: %+v", got, words(on), d)
	}
	return is
}

// TestAllSmallOnes asks of all diagrams of up to four blocks, of which each
// hangs on any ones, and of three, of which some are delays.
func TestAllSmallOnes(t *testing.T) {
	circles := 0
	for n := range 5 {
		for bits := range 1 << (n * n) {
			d := diag.Diagram{Blocks: make([]diag.Block, n)}
			for i := range n * n {
				b := &d.Blocks[i/n]
				b.Kind = diag.Sub
				if bits>>i&1 == 1 {
					b.From = append(b.From, diag.Source{Block: i % n, Port: i})
				}
			}
			if !holds(t, d) {
				circles++
			}
		}
	}
	if want := 1 + 1 + 3 + 25 + 543; circles != 1+2+16+512+65536-want {
		t.Errorf("%d of the small ones have circles", circles)
	}
}

// anyFile is that of a seed: of two one is sound.
func anyFile(seed uint64) diag.File {
	d := rand.New(rand.NewPCG(seed, 14))
	if seed%2 == 0 {
		return sketch.Any(d)
	}
	return sketch.Loose(d)
}

// stands asks whether the blocks of a diagram stand where they should, and all
// else is as it was.
func stands(t *testing.T, d, was diag.Diagram) {
	t.Helper()
	columns, _ := columns(hangs(was))
	rows := map[int]int{}
	taken := map[[2]int32]bool{}
	for i, b := range d.Blocks {
		if int(b.X) != columns[i] || int(b.Y) != rows[columns[i]] {
			t.Fatalf("P14.2: the block %d stands at %d, %d: %+v", i, b.X, b.Y, d)
		}
		rows[columns[i]]++
		at := [2]int32{b.X, b.Y}
		if taken[at] {
			t.Fatalf("P14.3: two blocks at %v: %+v", at, d)
		}
		taken[at] = true
		for _, s := range b.From {
			if b.Kind != diag.Delay && s.Block >= 0 && d.Blocks[s.Block].X >= b.X {
				t.Fatalf("P14.3: the block %d is not to the right of %d: %+v", i, s.Block, d)
			}
		}
	}
}

// TestWhateverComes holds what is answered of any files against the second
// reading.
func TestWhateverComes(t *testing.T) {
	count := map[api.Errno]int{}
	for seed := range uint64(10000) {
		f, kept := anyFile(seed), anyFile(seed)
		e := api.OK
		for _, d := range f.Diagrams {
			if !holds(t, d) {
				e = api.ErrCycle
			}
		}
		got, again := grid.Place(f)
		if again != e {
			t.Fatalf("P14.2: seed %d: %d, not %d: %+v", seed, again, e, f)
		}
		count[e]++
		if !reflect.DeepEqual(f, kept) {
			t.Fatalf("R4: seed %d: what is handed in is changed", seed)
		}
		if e != api.OK {
			if len(got.Diagrams) > 0 {
				t.Fatalf("R2: seed %d: something beside an error", seed)
			}
			continue
		}
		for i, d := range got.Diagrams {
			stands(t, d, f.Diagrams[i])
			for j := range d.Blocks {
				kept.Diagrams[i].Blocks[j].X, kept.Diagrams[i].Blocks[j].Y = d.Blocks[j].X, d.Blocks[j].Y
			}
		}
		if !got.Same(kept) {
			t.Fatalf("P14.2: seed %d: %+v, not %+v", seed, got, kept)
		}
		if twice, e := grid.Place(got); e != api.OK || !twice.Same(got) {
			t.Fatalf("P14.2: seed %d: placed again, %d, %+v, not %+v", seed, e, twice, got)
		}
	}
	if count[api.OK] < 5000 || count[api.ErrCycle] < 1000 {
		t.Errorf("%d without circles, %d with some", count[api.OK], count[api.ErrCycle])
	}
}

// TestNotThere asks of blocks that hang on ones that are not there: whatever
// is answered, the calls end.
func TestNotThere(t *testing.T) {
	numbers := []int{math.MinInt, -3, -2, 0, 1, 2, 3, math.MaxInt}
	for _, x := range numbers {
		for _, y := range numbers {
			for kind := -2; kind < 10; kind++ {
				d := diag.Diagram{Blocks: []diag.Block{
					{Kind: kind, From: []diag.Source{{Block: x, Port: y}, {Block: y, Port: x}}},
					{Kind: diag.Un, From: []diag.Source{{Block: x}}},
				}}
				grid.Columns(d)
				for range grid.Edges(d) {
				}
				f := diag.File{Diagrams: []diag.Diagram{d}}
				if got, e := grid.Place(f); !f.Right() && e != api.ErrArg || len(got.Diagrams) > 0 {
					t.Errorf("P14.2: %d, %+v", e, got)
				}
			}
		}
	}
}

// TestPorts asks of results by any numbers: a block hangs on the block whose
// they are.
func TestPorts(t *testing.T) {
	for _, port := range []int{0, 1, 7, 1 << 40} {
		d := diag.Diagram{Blocks: []diag.Block{
			{Kind: diag.Sub, From: []diag.Source{{Block: -1, Port: port}}},
			{Kind: diag.Sub, From: []diag.Source{{Block: 0, Port: port}, {Block: -1, Port: 0}}},
		}}
		if columns, e := grid.Columns(d); told(columns) != "0 1" || e != api.OK {
			t.Errorf("P14.1: %v, %d", columns, e)
		}
		if got := pairs(grid.Edges(d)); got != "1-0" {
			t.Errorf("P14.1: %s", got)
		}
	}
}

func TestNothingIsShared(t *testing.T) {
	text := "f a:int > b:int=#2 | 5 | neg #0 | + #1 #0"
	f := sketch.File(text)
	x, _ := grid.Columns(f.Diagrams[0])
	y, _ := grid.Columns(f.Diagrams[0])
	clear(x)
	if told(y) != "0 1 2" {
		t.Errorf("R4: two answers share columns: %v", y)
	}
	p, _ := grid.Place(f)
	q, _ := grid.Place(f)
	for i := range p.Diagrams[0].Blocks {
		p.Diagrams[0].Blocks[i].X = 77
	}
	p.Diagrams[0].Name = "other"
	if placed(q.Diagrams[0]) != "0,0 1,0 2,0" || q.Diagrams[0].Name != "f" || !f.Same(sketch.File(text)) {
		t.Errorf("R4: what is answered is shared: %+v, %+v", q, f)
	}
	room := sketch.File(text)
	d := &room.Diagrams[0]
	d.Blocks = append(d.Blocks, diag.Block{N: 7, X: 7})[:3]
	room.Diagrams = append(room.Diagrams, diag.Diagram{Name: "behind"})[:1]
	if got, e := grid.Place(room); e != api.OK || placed(got.Diagrams[0]) != "0,0 1,0 2,0" || d.Blocks[:4][3].X != 7 || room.Diagrams[:2][1].Name != "behind" {
		t.Errorf("R4: what stands behind a list is changed: %d, %+v", e, got)
	}
}

func TestNilAndEmpty(t *testing.T) {
	for _, d := range []diag.Diagram{{}, {Ins: []diag.Port{}, Outs: []diag.Out{}, Blocks: []diag.Block{}}} {
		if columns, e := grid.Columns(d); len(columns) != 0 || e != api.OK {
			t.Errorf("R3: Columns: %v, %d", columns, e)
		}
		if got := pairs(grid.Edges(d)); got != "" {
			t.Errorf("R3: Edges: %s", got)
		}
		if f, e := grid.Place(diag.File{Diagrams: []diag.Diagram{d}}); e != api.OK || len(f.Diagrams) != 1 {
			t.Errorf("R3: Place: %d, %+v", e, f)
		}
		d.Blocks = []diag.Block{{}, {From: []diag.Source{}}}
		if columns, e := grid.Columns(d); told(columns) != "0 0" || e != api.OK {
			t.Errorf("R3: Columns: %v, %d", columns, e)
		}
	}
	for _, f := range []diag.File{{}, {Diagrams: []diag.Diagram{}}} {
		if got, e := grid.Place(f); e != api.OK || len(got.Diagrams) != 0 {
			t.Errorf("R3: Place of nothing: %d, %+v", e, got)
		}
	}
}

// TestNothingIsKept asks for the same at first, and behind much else.
func TestNothingIsKept(t *testing.T) {
	d := first("f | neg #1 | delay int #0 | + #0 #1")
	for seed := range uint64(300) {
		f := anyFile(seed)
		grid.Place(f)
		for _, o := range f.Diagrams {
			grid.Columns(o)
			for range grid.Edges(o) {
				break
			}
		}
		columns, e := grid.Columns(d)
		if told(columns) != "1 0 2" || e != api.OK || pairs(grid.Edges(d)) != "0-1 2-0 2-1" {
			t.Fatalf("R6: %v, %d, %s", columns, e, pairs(grid.Edges(d)))
		}
	}
}
