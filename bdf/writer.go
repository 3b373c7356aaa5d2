package bdf

import (
	"shuttlecock/diag"
	"shuttlecock/wire"
)

// writer puts the second and the third section of a file together, in one
// walk through it.
type writer struct {
	note   func(name string) uint64 // notes a Name, and tells its number
	parts  []byte
	places []byte
}

// number puts a number by sevens.
func (w *writer) number(v uint64) {
	w.parts = wire.PutVar(w.parts, v)
}

// small puts a number that is a byte.
func (w *writer) small(v int) {
	w.parts = append(w.parts, byte(v))
}

func (w *writer) name(name string) {
	w.number(w.note(name))
}

func (w *writer) file(f diag.File) {
	putList(w, f.Diagrams, w.diagram)
}

// putList puts how many things there are, and each of them.
func putList[T any](w *writer, all []T, one func(T)) {
	w.number(uint64(len(all)))
	for _, x := range all {
		one(x)
	}
}

func (w *writer) diagram(d diag.Diagram) {
	w.name(d.Name)
	putList(w, d.Ins, w.port)
	putList(w, d.Outs, w.out)
	putList(w, d.Blocks, w.block)
}

func (w *writer) port(p diag.Port) {
	w.name(p.Name)
	w.small(p.Type)
}

func (w *writer) out(o diag.Out) {
	w.port(o.Port)
	w.source(o.From)
}

func (w *writer) source(s diag.Source) {
	w.number(uint64(s.Block - inPorts))
	w.number(uint64(s.Port))
}

// block puts a block's parts, and where it stands.
func (w *writer) block(b diag.Block) {
	w.places = wire.Put32(w.places, uint32(b.X))
	w.places = wire.Put32(w.places, uint32(b.Y))
	w.small(b.Kind)
	switch b.Kind {
	case diag.Int:
		w.number(uint64(b.N))
	case diag.Bool:
		w.small(int(b.N))
	case diag.Un, diag.Bin, diag.Delay:
		w.small(b.Op)
	case diag.Sub:
		w.number(uint64(b.Sub))
		w.number(uint64(len(b.From)))
	}
	for _, s := range b.From {
		w.source(s)
	}
}
