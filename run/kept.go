package run

import (
	"shuttlecock/diag"
	"shuttlecock/flow"
	"shuttlecock/sem"
)

// wires are a diagram's: all values of an instant have places there. As no
// diagram has itself as a block, there is never more than one run of it that
// is worked on: they share the wires, and have of their own just what they
// keep for the next instant.
type wires struct {
	order  []int // of the blocks
	first  []int // the place of each block's first result, from the block -1 on
	nth    []int // of each block, how many of its kind are ahead of it
	values []sem.Value
}

// kept is what is kept of a run of a diagram.
type kept struct {
	diag.Diagram
	*wires
	begun bool        // the instant 0 is over
	past  []sem.Value // of each delay
	inner []*kept     // of each block that is a diagram
}

// starter starts runs, and lays the wires of those diagrams that are run.
type starter struct {
	file  diag.File
	types *flow.Types
	wires []*wires
}

// start is a new run of a diagram, ahead of the instant 0.
func (s starter) start(i int) *kept {
	if s.wires[i] == nil {
		s.wires[i] = s.lay(i)
	}
	r := &kept{Diagram: s.file.Diagrams[i], wires: s.wires[i]}
	for _, b := range r.Blocks {
		switch b.Kind {
		case diag.Delay:
			r.past = append(r.past, sem.Value{})
		case diag.Sub:
			r.inner = append(r.inner, s.start(b.Sub))
		}
	}
	return r
}

// lay lays a diagram's wires: first what comes in, and then the blocks'
// results.
func (s starter) lay(i int) *wires {
	d := s.file.Diagrams[i]
	w := &wires{order: s.types.Order(i), first: []int{0}}
	count, place := [diag.Sub + 1]int{}, len(d.Ins)
	for _, b := range d.Blocks {
		w.first = append(w.first, place)
		w.nth = append(w.nth, count[b.Kind])
		place += s.file.Results(b)
		count[b.Kind]++
	}
	w.values = make([]sem.Value, place)
	return w
}

// trace is what goes out, instant by instant, of what comes in.
func (r *kept) trace(ins [][]sem.Value) [][]sem.Value {
	all := make([][]sem.Value, len(ins))
	for i, l := range ins {
		copy(r.values, l)
		all[i] = make([]sem.Value, len(r.Outs))
		r.instant(all[i])
	}
	return all
}

// instant makes all values of one instant, of what stands in the first places,
// and tells what goes out.
func (r *kept) instant(out []sem.Value) {
	for _, i := range r.order {
		r.block(i)
	}
	for i := range r.Blocks {
		if b := &r.Blocks[i]; b.Kind == diag.Delay {
			r.past[r.nth[i]] = r.value(b.From[0])
		}
	}
	for i := range r.Outs {
		out[i] = r.value(r.Outs[i].From)
	}
	r.begun = true
}

// value is a source's value.
func (r *kept) value(s diag.Source) sem.Value {
	return r.values[r.first[s.Block+1]+s.Port]
}

// block makes the values of a block's results.
func (r *kept) block(i int) {
	b, to := &r.Blocks[i], r.values[r.first[i+1]:]
	switch b.Kind {
	case diag.Delay:
		to[0] = r.past[r.nth[i]]
	case diag.Sub:
		inner := r.inner[r.nth[i]]
		for j, from := range b.From {
			inner.values[j] = r.value(from)
		}
		inner.instant(to)
	default:
		to[0] = r.made(b)
	}
}

// made is what a block makes that has no past of its own.
func (r *kept) made(b *diag.Block) sem.Value {
	switch b.Kind {
	case diag.Int:
		return sem.Of(b.N)
	case diag.Bool:
		return sem.Truth(b.N == 1)
	case diag.Un:
		return sem.Unary(b.Op, r.value(b.From[0]))
	case diag.Bin:
		return sem.Binary(b.Op, r.value(b.From[0]), r.value(b.From[1]))
	case diag.Choice:
		return sem.Choose(r.value(b.From[0]), r.value(b.From[1]), r.value(b.From[2]))
	}
	if r.begun { // of a start
		return r.value(b.From[1])
	}
	return r.value(b.From[0])
}
