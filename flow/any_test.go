package flow_test

import (
	"math/rand/v2"
	"slices"

	"shuttlecock/diag"
	"shuttlecock/sketch"
)

// changer changes files that are sound to ones that mostly are not.
type changer struct {
	*rand.Rand
	diag.File
}

// anyFile is that of a seed.
func anyFile(seed uint64) diag.File {
	r := rand.New(rand.NewPCG(seed, 11))
	c := &changer{Rand: r, File: sketch.Any(r)}
	for range []int{0, 1, 1, 1, 2, 3}[c.IntN(6)] {
		c.change(c.IntN(len(c.Diagrams)))
	}
	return c.File
}

// any is any source of a diagram, or, seldom, one that it has not.
func (c *changer) any(d *diag.Diagram) diag.Source {
	s := diag.Source{Block: c.IntN(len(d.Blocks)+1) - 1}
	if c.IntN(4) == 0 {
		s.Port = c.IntN(3)
	}
	return s
}

// change changes something of a diagram that is sound.
func (c *changer) change(number int) {
	d := &c.Diagrams[number]
	other := c.Diagrams[c.IntN(len(c.Diagrams))]
	if len(d.Outs) == 0 || len(other.Outs) == 0 {
		return
	}
	names := []string{"", "1", "if", other.Name, other.Outs[0].Port.Name}
	name := names[c.IntN(len(names))]
	switch x := c.IntN(16); {
	case x == 0:
		d.Name = name
	case x == 1:
		d.Outs[c.IntN(len(d.Outs))].Port.Name = name
	case x == 2 && len(d.Ins) > 0:
		d.Ins[c.IntN(len(d.Ins))].Name = name
	case x == 3:
		d.Outs[c.IntN(len(d.Outs))].Port.Type ^= 1
	case x == 4 && len(d.Ins) > 0:
		d.Ins[c.IntN(len(d.Ins))].Type ^= 1
	case x == 5:
		d.Ins = append(d.Ins, diag.Port{Name: "x", Type: c.IntN(2)})
	case x == 6:
		from := c.any(d)
		d.Outs[c.IntN(len(d.Outs))].From = from
	case x == 7 && number == len(c.Diagrams)-1:
		c.Diagrams = append(c.Diagrams, diag.Diagram{Name: "last", Ins: d.Ins, Blocks: ints(1)})
	case x == 8:
		d.Blocks = append(d.Blocks, diag.Block{Kind: c.IntN(9) - 1})
	case x == 9:
		c.sub(d, c.IntN(len(c.Diagrams)))
	case len(d.Blocks) > 0:
		c.below(d, c.IntN(len(d.Blocks)))
	}
}

// sub puts a diagram as a block to any other one, or to itself: most circles of
// diagrams come of it.
func (c *changer) sub(d *diag.Diagram, number int) {
	b := diag.Block{Kind: diag.Sub, Sub: number}
	for _, p := range c.Diagrams[number].Ins {
		b.From = append(b.From, diag.Source{Block: len(d.Blocks)})
		d.Blocks = append(d.Blocks, diag.Block{Kind: p.Type})
	}
	d.Blocks = append(d.Blocks, b)
}

// below changes something of a block.
func (c *changer) below(d *diag.Diagram, i int) {
	from := slices.Clone(d.Blocks[i].From)
	if len(from) > 0 && c.IntN(3) > 0 {
		j := c.IntN(len(from))
		from[j] = c.any(d)
		if c.IntN(2) == 0 {
			from[j] = diag.Source{Block: c.IntN(len(d.Blocks))}
		}
		d.Blocks[i].From = from
		return
	}
	switch b := &d.Blocks[i]; c.IntN(5) {
	case 0:
		b.Op = c.IntN(16)
	case 1:
		b.Kind = c.IntN(8)
	case 2:
		b.Sub = c.IntN(len(c.Diagrams) + 1)
	case 3:
		b.From = from[:len(from)/2]
	case 4:
		b.From = append(from, diag.Source{Block: i})
	}
}
