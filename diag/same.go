package diag

import "slices"

// Same: is all the same?
func (f File) Same(o File) bool {
	return slices.EqualFunc(f.Diagrams, o.Diagrams, Diagram.same)
}

func (d Diagram) same(o Diagram) bool {
	blocks := func(a, b Block) bool {
		return a.Kind == b.Kind && a.Op == b.Op && a.Sub == b.Sub && a.N == b.N &&
			a.X == b.X && a.Y == b.Y && slices.Equal(a.From, b.From)
	}
	return d.Name == o.Name && slices.Equal(d.Ins, o.Ins) && slices.Equal(d.Outs, o.Outs) &&
		slices.EqualFunc(d.Blocks, o.Blocks, blocks)
}
