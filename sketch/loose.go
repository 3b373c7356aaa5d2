package sketch

import (
	"math"
	"strings"

	"shuttlecock/ast"
	"shuttlecock/diag"
)

// loose makes a file of which nothing is asked but that it is right.
type loose struct {
	Dice
	diag.File
}

// Loose is any file that is right, and mostly not sound: its names are any
// bytes, and sources, whatever their types, any that there are.
func Loose(d Dice) diag.File {
	l := loose{Dice: d}
	l.Diagrams = make([]diag.Diagram, l.IntN(5))
	for i := range l.Diagrams {
		l.Diagrams[i] = l.bare()
	}
	for i := range l.Diagrams {
		l.join(&l.Diagrams[i])
	}
	return l.File
}

// port is any port.
func (l loose) port() diag.Port {
	names := [...]string{"", "a", "A", "b\x00", "\xff\xfe", "node", "in out", "\n", strings.Repeat("long", 80)}
	return diag.Port{Name: names[l.IntN(len(names))], Type: l.IntN(2)}
}

// bare is a diagram in which nothing has sources yet.
func (l loose) bare() diag.Diagram {
	d := diag.Diagram{Name: l.port().Name}
	for range l.IntN(4) {
		d.Ins = append(d.Ins, l.port())
	}
	for range l.IntN(4) {
		d.Outs = append(d.Outs, diag.Out{Port: l.port()})
	}
	for range l.IntN(8) {
		d.Blocks = append(d.Blocks, l.block())
	}
	return d
}

// block is one of any kind, without sources.
func (l loose) block() diag.Block {
	b := diag.Block{Kind: l.IntN(diag.Sub + 1), X: int32(l.Int64N(1 << 32)), Y: int32(l.Int64N(1 << 32))}
	switch b.Kind {
	case diag.Int:
		ints := [...]int64{0, 1, 127, 128, 300, 1 << 40, math.MaxInt64}
		b.N = ints[l.IntN(len(ints))]
	case diag.Bool:
		b.N = l.Int64N(2)
	case diag.Un, diag.Delay:
		b.Op = l.IntN(2)
	case diag.Bin:
		b.Op = ast.Implies + l.IntN(ast.Mod)
	case diag.Sub:
		b.Sub = l.IntN(len(l.Diagrams))
	}
	return b
}

// join puts sources to all of a diagram that has some; it has one at least.
func (l loose) join(d *diag.Diagram) {
	if len(d.Ins) == 0 {
		d.Ins = append(d.Ins, l.port())
	}
	var all []diag.Source
	for i := range d.Ins {
		all = append(all, diag.Source{Block: -1, Port: i})
	}
	for i, b := range d.Blocks {
		for port := range l.Results(b) {
			all = append(all, diag.Source{Block: i, Port: port})
		}
	}
	for i := range d.Outs {
		d.Outs[i].From = all[l.IntN(len(all))]
	}
	for i := range d.Blocks {
		b := &d.Blocks[i]
		many := [...]int{0, 0, 1, 2, 1, 2, 3, l.IntN(5)}
		for range many[b.Kind] {
			b.From = append(b.From, all[l.IntN(len(all))])
		}
	}
}
