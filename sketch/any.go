package sketch

import (
	"strconv"

	"shuttlecock/ast"
	"shuttlecock/diag"
)

// The types.
const (
	typeInt = iota
	typeBool
)

// Dice are what any file is made by.
type Dice interface {
	IntN(n int) int
	Int64N(n int64) int64
	Perm(n int) []int
}

// maker makes a file.
type maker struct {
	Dice
	diag.File
	levels []int // a diagram has those of lower levels as blocks
}

// drawer makes a diagram of a file.
type drawer struct {
	*maker
	*diag.Diagram
	level   int
	sources [typeBool + 1][]diag.Source // those that there are, by their types
}

// Any is any file that is sound, of a few diagrams.
func Any(d Dice) diag.File {
	m := &maker{Dice: d}
	m.levels = m.Perm(1 + m.IntN(5))
	for i := range m.levels {
		m.Diagrams = append(m.Diagrams, m.head(i))
	}
	for i := range m.Diagrams {
		d := drawer{maker: m, Diagram: &m.Diagrams[i], level: m.levels[i]}
		d.blocks()
		d.mix()
	}
	return m.File
}

// head is a diagram without blocks.
func (m *maker) head(i int) diag.Diagram {
	d := diag.Diagram{Name: "d" + strconv.Itoa(i)}
	names := [...]string{"a", "b", "c", "d", "e", "f", "d0", "d1"}
	order := m.Perm(len(names))
	ins, outs := m.IntN(4), 1+m.IntN(3)
	for _, j := range order[:ins] {
		d.Ins = append(d.Ins, diag.Port{Name: names[j], Type: m.IntN(2)})
	}
	for _, j := range order[ins : ins+outs] {
		d.Outs = append(d.Outs, diag.Out{Port: diag.Port{Name: names[j], Type: m.IntN(2)}})
	}
	return d
}

// blocks puts blocks to a diagram, each of which has sources ahead of it; at
// last the delays' sources, which may be any, and what goes out.
func (d *drawer) blocks() {
	for i, p := range d.Ins {
		d.note(diag.Source{Block: -1, Port: i}, p.Type)
	}
	for range d.IntN(9) {
		d.block()
	}
	for i := 0; i < len(d.Blocks); i++ {
		if d.Blocks[i].Kind == diag.Delay {
			from := d.any(d.Blocks[i].Op)
			d.Blocks[i].From = from
		}
	}
	for i := range d.Outs {
		d.Outs[i].From = d.any(d.Outs[i].Port.Type)[0]
	}
}

// note notes that there is a source of a type.
func (d *drawer) note(s diag.Source, kind int) {
	d.sources[kind] = append(d.sources[kind], s)
}

// put puts a block of one result, of a type.
func (d *drawer) put(b diag.Block, kind int) {
	d.note(diag.Source{Block: len(d.Blocks)}, kind)
	d.Blocks = append(d.Blocks, b)
}

// any are any sources of these types; where there is none, a block is put for
// it.
func (d *drawer) any(kinds ...int) []diag.Source {
	var from []diag.Source
	for _, kind := range kinds {
		if len(d.sources[kind]) == 0 || d.IntN(20) == 0 {
			d.still(kind)
		}
		all := d.sources[kind]
		from = append(from, all[d.IntN(len(all))])
	}
	return from
}

// still puts an int, or a bool.
func (d *drawer) still(kind int) {
	ints := [...]int64{0, 1, 2, 3, 10, 1 << 40, 1<<63 - 1}
	n := ints[d.IntN(len(ints))]
	if kind == typeBool {
		n = d.Int64N(2)
	}
	d.put(diag.Block{Kind: kind, N: n}, kind)
}

// block puts a block of any kind; a delay has no source yet.
func (d *drawer) block() {
	kind := d.IntN(2)
	switch x := d.IntN(diag.Sub + 1); x {
	case diag.Int, diag.Bool:
		d.still(x)
	case diag.Un:
		d.put(diag.Block{Kind: x, Op: kind, From: d.any(kind)}, kind)
	case diag.Bin:
		d.two(ast.Implies+d.IntN(ast.Mod), kind)
	case diag.Delay:
		d.put(diag.Block{Kind: x, Op: kind}, kind)
	case diag.Start:
		d.put(diag.Block{Kind: x, From: d.any(kind, kind)}, kind)
	case diag.Choice:
		d.put(diag.Block{Kind: x, From: d.any(typeBool, kind, kind)}, kind)
	case diag.Sub:
		d.sub()
	}
}

// two puts an op of two, of sources of a type, if it does not ask for another
// one.
func (d *drawer) two(op, kind int) {
	is := typeBool
	switch {
	case op <= ast.And:
		kind = typeBool
	case op > ast.Ge:
		kind, is = typeInt, typeInt
	case op > ast.Ne:
		kind = typeInt
	}
	d.put(diag.Block{Kind: diag.Bin, Op: op, From: d.any(kind, kind)}, is)
}

// sub puts a diagram of a lower level, if there is one.
func (d *drawer) sub() {
	for _, i := range d.Perm(len(d.levels)) {
		if d.levels[i] >= d.level {
			continue
		}
		sub := d.Diagrams[i]
		var kinds []int
		for _, p := range sub.Ins {
			kinds = append(kinds, p.Type)
		}
		b := diag.Block{Kind: diag.Sub, Sub: i, From: d.any(kinds...)}
		for port, o := range sub.Outs {
			d.note(diag.Source{Block: len(d.Blocks), Port: port}, o.Port.Type)
		}
		d.Blocks = append(d.Blocks, b)
		return
	}
}

// mix changes the order of a diagram's blocks, and where they stand.
func (d *drawer) mix() {
	to := d.Perm(len(d.Blocks))
	move := func(s *diag.Source) {
		if s.Block >= 0 {
			s.Block = to[s.Block]
		}
	}
	all := make([]diag.Block, len(to))
	for i, b := range d.Blocks {
		b.X, b.Y = int32(d.Int64N(1<<32)), int32(d.Int64N(1<<32))
		for j := range b.From {
			move(&b.From[j])
		}
		all[to[i]] = b
	}
	d.Blocks = all
	for i := range d.Outs {
		move(&d.Outs[i].From)
	}
}
