package bdf

import (
	"math"

	"shuttlecock/api"
	"shuttlecock/diag"
	"shuttlecock/strtab"
	"shuttlecock/wire"
)

const (
	mostEntries = 1<<24 - 1 // of a list, and the greatest diagram
	mostSource  = 1 << 24   // of a source's two numbers
	sumBytes    = 4
)

// reader reads what stands in a file's bytes.
type reader struct {
	*wire.Reader
	name func() string // reads a Name
}

// sections are the three ones' readers, if all that stands around them is as
// it should be; else nothing and the error.
func sections(b []byte) ([]*wire.Reader, api.Errno) {
	r := reader{Reader: wire.Read(b)}
	r.front()
	all := []*wire.Reader{r.Section(namesSection), r.Section(partsSection), r.Section(placesSection)}
	sum := r.U32()
	if e := r.End(); e != api.OK {
		return nil, e
	}
	if sum != wire.Sum(b[:len(b)-sumBytes]) {
		return nil, api.ErrSum
	}
	return all, api.OK
}

// front reads what stands ahead of the sections. Only the first thing that is
// wrong counts with Fail, so a byte that lacks may be held against the one
// that is asked.
func (r reader) front() {
	for _, c := range []byte(mark) {
		if r.Byte() != c {
			r.Fail(api.ErrForm)
		}
	}
	if r.U16() != version {
		r.Fail(api.ErrForm)
	}
}

// nameReader makes what reads a Name: a text of the table that was one ahead,
// or the next text. It counts how many texts were one.
func nameReader(r *wire.Reader, table *strtab.Table, noted *int) func() string {
	return func() string {
		i := r.Var(math.MaxUint64)
		name, is := table.Get(int(i))
		if i > uint64(*noted) || !is {
			r.Fail(api.ErrForm)
			return ""
		}
		*noted = max(*noted, int(i)+1)
		return name
	}
}

func (r reader) file() diag.File {
	return diag.File{Diagrams: list(r, r.diagram)}
}

// list reads how many things there are, and each of them, till the reader
// gives up. It takes no more memory than there are things, however many are
// told.
func list[T any](r reader, one func() T) []T {
	var all []T
	for range r.Var(mostEntries) {
		x := one()
		if r.Err() != api.OK {
			return nil
		}
		all = append(all, x)
	}
	return all
}

func (r reader) diagram() diag.Diagram {
	return diag.Diagram{
		Name:   r.name(),
		Ins:    list(r, r.port),
		Outs:   list(r, r.out),
		Blocks: list(r, r.block),
	}
}

func (r reader) port() diag.Port {
	return diag.Port{Name: r.name(), Type: int(r.Byte())}
}

func (r reader) out() diag.Out {
	return diag.Out{Port: r.port(), From: r.source()}
}

func (r reader) source() diag.Source {
	return diag.Source{Block: int(r.Var(mostSource)) + inPorts, Port: int(r.Var(mostSource))}
}

// block reads a block; whether it is right is asked of the whole file.
func (r reader) block() diag.Block {
	b := diag.Block{Kind: int(r.Byte())}
	switch b.Kind {
	case diag.Int:
		b.N = int64(r.Var(math.MaxInt64))
	case diag.Bool:
		b.N = int64(r.Byte())
	case diag.Un, diag.Bin, diag.Delay:
		b.Op = int(r.Byte())
	}
	switch {
	case b.Kind < len(sources):
		for range sources[b.Kind] {
			b.From = append(b.From, r.source())
		}
	case b.Kind == diag.Sub:
		b.Sub = int(r.Var(mostEntries))
		b.From = list(r, r.source)
	default:
		r.Fail(api.ErrForm)
	}
	return b
}

// places reads where all blocks of a file stand.
func (r reader) places(f diag.File) {
	for _, d := range f.Diagrams {
		for i := range d.Blocks {
			b := &d.Blocks[i]
			b.X, b.Y = int32(r.U32()), int32(r.U32())
		}
	}
}
