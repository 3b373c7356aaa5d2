package flow_test

import (
	"math/rand/v2"
	"slices"
	"strconv"

	"shuttlecock/diag"
)

// maker makes any files: first ones that are sound, and then, with some
// change, ones that mostly are not.
type maker struct {
	*rand.Rand
	*diag.File
}

// anyFile is that of a seed.
func anyFile(seed uint64) diag.File {
	m := &maker{Rand: rand.New(rand.NewPCG(seed, 11)), File: &diag.File{}}
	for i := range 1 + m.IntN(5) {
		m.Diagrams = append(m.Diagrams, m.head(i))
	}
	for i := range m.Diagrams {
		m.blocks(i)
		m.mix(&m.Diagrams[i])
	}
	for range []int{0, 1, 1, 1, 2, 3}[m.IntN(6)] {
		m.change(m.IntN(len(m.Diagrams)))
	}
	return *m.File
}

// head is a diagram without blocks.
func (m *maker) head(i int) diag.Diagram {
	d := diag.Diagram{Name: "d" + strconv.Itoa(i)}
	names := []string{"a", "b", "c", "d", "e", "f", "d0", "d1"}
	m.Shuffle(len(names), func(i, j int) { names[i], names[j] = names[j], names[i] })
	for range m.IntN(4) {
		d.Ins = append(d.Ins, diag.Port{Name: names[0], Type: m.IntN(2)})
		names = names[1:]
	}
	for range 1 + m.IntN(3) {
		d.Outs = append(d.Outs, diag.Out{Port: diag.Port{Name: names[0], Type: m.IntN(2)}})
		names = names[1:]
	}
	return d
}

// may: may the diagram i have the diagram j? Mostly they are as they must be
// for no circle to come of it.
func (m *maker) may(i, j int) bool {
	return (i*7+3)%5 > (j*7+3)%5 || m.IntN(60) == 0
}

// made are the types of a block's results.
func (m *maker) made(d diag.Diagram, block int) []int {
	var all []int
	for port := range m.Results(d.Blocks[block]) {
		letter := second{*m.File}.letter(d, diag.Source{Block: block, Port: port})
		all = append(all, map[string]int{"i": 0, "b": 1}[letter])
	}
	return all
}

// source is any one of a type; if there is none, a block is put there for it.
func (m *maker) source(d *diag.Diagram, kind int) diag.Source {
	var all []diag.Source
	for i, p := range d.Ins {
		if p.Type == kind {
			all = append(all, diag.Source{Block: -1, Port: i})
		}
	}
	for i := range d.Blocks {
		for port, is := range m.made(*d, i) {
			if is == kind {
				all = append(all, diag.Source{Block: i, Port: port})
			}
		}
	}
	if len(all) == 0 || m.IntN(20) == 0 {
		d.Blocks = append(d.Blocks, diag.Block{Kind: kind, N: m.Int64N(2)})
		return diag.Source{Block: len(d.Blocks) - 1}
	}
	return all[m.IntN(len(all))]
}

// blocks puts blocks to a diagram, each of which has sources ahead of it; at
// last delays' sources, which may be any, and Outs.
func (m *maker) blocks(i int) {
	d := &m.Diagrams[i]
	for range m.IntN(8) {
		b, asked := m.block(i)
		for _, kind := range asked {
			b.From = append(b.From, m.source(d, kind))
		}
		d.Blocks = append(d.Blocks, b)
	}
	for j := 0; j < len(d.Blocks); j++ {
		if d.Blocks[j].Kind == diag.Delay {
			from := m.source(d, d.Blocks[j].Op)
			d.Blocks[j].From = []diag.Source{from}
		}
	}
	for j := range d.Outs {
		from := m.source(d, d.Outs[j].Port.Type)
		d.Outs[j].From = from
	}
}

// block is one without sources, and the types that it asks of them; of a delay
// none yet.
func (m *maker) block(i int) (diag.Block, []int) {
	kind := m.IntN(2)
	switch x := 2 + m.IntN(6); x {
	case diag.Un:
		return diag.Block{Kind: x, Op: kind}, []int{kind}
	case diag.Bin:
		op := 1 + m.IntN(15)
		letter := takes[twos[op]][0]
		if len(takes[twos[op]]) > 4 {
			letter = "ib"[kind]
		}
		kind = map[byte]int{'i': 0, 'b': 1}[letter]
		return diag.Block{Kind: x, Op: op}, []int{kind, kind}
	case diag.Delay:
		return diag.Block{Kind: x, Op: kind}, nil
	case diag.Start:
		return diag.Block{Kind: x}, []int{kind, kind}
	case diag.Choice:
		return diag.Block{Kind: x}, []int{1, kind, kind}
	}
	for _, j := range m.Perm(len(m.Diagrams)) {
		if m.may(i, j) {
			var asked []int
			for _, p := range m.Diagrams[j].Ins {
				asked = append(asked, p.Type)
			}
			return diag.Block{Kind: diag.Sub, Sub: j}, asked
		}
	}
	return diag.Block{N: m.Int64()}, nil
}

// mix changes the order of a diagram's blocks, and where they stand.
func (m *maker) mix(d *diag.Diagram) {
	to := m.Perm(len(d.Blocks))
	all := make([]diag.Block, len(to))
	move := func(s *diag.Source) {
		if s.Block >= 0 {
			s.Block = to[s.Block]
		}
	}
	for i, b := range d.Blocks {
		b.X, b.Y = int32(m.Uint32()), int32(m.Uint32())
		for j := range b.From {
			move(&b.From[j])
		}
		all[to[i]] = b
	}
	d.Blocks = all
	for i := range d.Outs {
		move(&d.Outs[i].From)
	}
}

// any is any source of a diagram, or, seldom, one that it has not.
func (m *maker) any(d *diag.Diagram) diag.Source {
	s := diag.Source{Block: m.IntN(len(d.Blocks)+1) - 1}
	if m.IntN(4) == 0 {
		s.Port = m.IntN(3)
	}
	return s
}

// change changes something of a diagram that is sound.
func (m *maker) change(number int) {
	d := &m.Diagrams[number]
	other := m.Diagrams[m.IntN(len(m.Diagrams))]
	if len(d.Outs) == 0 || len(other.Outs) == 0 {
		return
	}
	names := []string{"", "1", "if", other.Name, other.Outs[0].Port.Name}
	name := names[m.IntN(len(names))]
	switch x := m.IntN(16); {
	case x == 0:
		d.Name = name
	case x == 1:
		d.Outs[m.IntN(len(d.Outs))].Port.Name = name
	case x == 2 && len(d.Ins) > 0:
		d.Ins[m.IntN(len(d.Ins))].Name = name
	case x == 3:
		d.Outs[m.IntN(len(d.Outs))].Port.Type ^= 1
	case x == 4 && len(d.Ins) > 0:
		d.Ins[m.IntN(len(d.Ins))].Type ^= 1
	case x == 5:
		d.Ins = append(d.Ins, diag.Port{Name: "x", Type: m.IntN(2)})
	case x == 6:
		from := m.any(d)
		d.Outs[m.IntN(len(d.Outs))].From = from
	case x == 7 && number == len(m.Diagrams)-1:
		m.Diagrams = append(m.Diagrams, diag.Diagram{Name: "last", Ins: d.Ins, Blocks: ints(1)})
	case x == 8:
		d.Blocks = append(d.Blocks, diag.Block{Kind: m.IntN(9) - 1})
	case len(d.Blocks) > 0:
		m.below(d, m.IntN(len(d.Blocks)))
	}
}

// below changes something of a block.
func (m *maker) below(d *diag.Diagram, i int) {
	from := slices.Clone(d.Blocks[i].From)
	if len(from) > 0 && m.IntN(3) > 0 {
		j := m.IntN(len(from))
		from[j] = m.any(d)
		if m.IntN(2) == 0 {
			from[j] = diag.Source{Block: m.IntN(len(d.Blocks))}
		}
		d.Blocks[i].From = from
		return
	}
	switch b := &d.Blocks[i]; m.IntN(5) {
	case 0:
		b.Op = m.IntN(16)
	case 1:
		b.Kind = m.IntN(8)
	case 2:
		b.Sub = m.IntN(len(m.Diagrams) + 1)
	case 3:
		b.From = from[:len(from)/2]
	case 4:
		b.From = append(from, diag.Source{Block: i})
	}
}
