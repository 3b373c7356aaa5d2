package diag

import "math"

const (
	mostEntries = 1<<24 - 1 // of a list
	mostBytes   = 65535     // of a name
	lastType    = 1         // the types are 0 int, 1 bool
	inPorts     = -1        // the block of which the in-ports are results
	anyNumber   = -1        // of sources
)

// shape is what a block of a kind has.
type shape struct {
	firstOp, lastOp int
	greatest        int64 // of the numbers, which begin at 0
	sources         int
}

// shapes are those of the kinds, by their numbers.
var shapes = [...]shape{
	Int:    {greatest: math.MaxInt64},
	Bool:   {greatest: 1},
	Un:     {lastOp: 1, sources: 1},
	Bin:    {firstOp: 1, lastOp: 15, sources: 2},
	Delay:  {lastOp: lastType, sources: 1},
	Start:  {sources: 2},
	Choice: {sources: 3},
	Sub:    {sources: anyNumber},
}

// Right: may it be?
func (f File) Right() bool {
	return all(f.Diagrams, f.diagram)
}

// Results is how many results a block has; 0 of no such kind, or diagram.
func (f File) Results(b Block) int {
	switch {
	case b.Kind == Sub && within(b.Sub, len(f.Diagrams)):
		return len(f.Diagrams[b.Sub].Outs)
	case within(b.Kind, Sub): // all kinds but this one
		return 1
	}
	return 0
}

// within: is it one of so many numbers, from 0 on?
func within(i, many int) bool {
	return 0 <= i && i < many
}

// all: has a list no more entries than it may, and is each of them right?
func all[T any](list []T, right func(T) bool) bool {
	if len(list) > mostEntries {
		return false
	}
	for _, entry := range list {
		if !right(entry) {
			return false
		}
	}
	return true
}

// diagram: may one of the file be?
func (f File) diagram(d Diagram) bool {
	is := func(s Source) bool { return f.has(d, s) }
	return len(d.Name) <= mostBytes && all(d.Ins, Port.right) &&
		all(d.Outs, func(o Out) bool { return o.Port.right() && is(o.From) }) &&
		all(d.Blocks, func(b Block) bool { return f.fits(b) && all(b.From, is) })
}

func (p Port) right() bool {
	return len(p.Name) <= mostBytes && 0 <= p.Type && p.Type <= lastType
}

// fits: has a block what its kind has, whatever its sources are?
func (f File) fits(b Block) bool {
	if !within(b.Kind, len(shapes)) {
		return false
	}
	s := shapes[b.Kind]
	return s.firstOp <= b.Op && b.Op <= s.lastOp && f.sub(b) && 0 <= b.N && b.N <= s.greatest &&
		(s.sources == anyNumber || s.sources == len(b.From))
}

// sub: has a block a diagram, or none, as its kind asks?
func (f File) sub(b Block) bool {
	if b.Kind == Sub {
		return within(b.Sub, len(f.Diagrams))
	}
	return b.Sub == 0
}

// has: is there a source in a diagram?
func (f File) has(d Diagram, s Source) bool {
	if s.Block == inPorts {
		return within(s.Port, len(d.Ins))
	}
	return within(s.Block, len(d.Blocks)) && within(s.Port, f.Results(d.Blocks[s.Block]))
}
