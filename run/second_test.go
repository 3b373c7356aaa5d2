package run_test

import (
	"shuttlecock/diag"
	"shuttlecock/sem"
)

// second is a second reading of the chapter: a source's value is asked for,
// and goes back to those of which it comes, whatever the order of the blocks.
// What is asked of no one is never made.
type second struct {
	diag.File
	number int
	given  func(port, at int) sem.Value
	inner  map[int]*second // by the blocks
	known  map[asked]sem.Value
}

// asked is a source at an instant.
type asked struct {
	diag.Source
	at int
}

func (s *second) value(from diag.Source, at int) sem.Value {
	if from.Block == -1 {
		return s.given(from.Port, at)
	}
	v, is := s.known[asked{from, at}]
	if !is {
		v = s.made(s.Diagrams[s.number].Blocks[from.Block], from, at)
		s.known[asked{from, at}] = v
	}
	return v
}

func (s *second) made(b diag.Block, from diag.Source, at int) sem.Value {
	of := func(i int) sem.Value { return s.value(b.From[i], at) }
	switch b.Kind {
	case diag.Int:
		return sem.Value{Kind: sem.Int, N: b.N}
	case diag.Bool:
		return sem.Value{Kind: sem.Bool, N: b.N}
	case diag.Un:
		return sem.Unary(b.Op, of(0))
	case diag.Bin:
		return sem.Binary(b.Op, of(0), of(1))
	case diag.Delay:
		if at == 0 {
			return sem.Value{}
		}
		return s.value(b.From[0], at-1)
	case diag.Start:
		return of(min(at, 1))
	case diag.Choice:
		return sem.Choose(of(0), of(1), of(2))
	}
	if s.inner[from.Block] == nil {
		s.inner[from.Block] = reading(s.File, b.Sub, func(port, at int) sem.Value { return s.value(b.From[port], at) })
	}
	return s.inner[from.Block].out(from.Port, at)
}

func (s *second) out(port, at int) sem.Value {
	return s.value(s.Diagrams[s.number].Outs[port].From, at)
}

// reading is that of a run of a diagram.
func reading(f diag.File, number int, given func(port, at int) sem.Value) *second {
	return &second{f, number, given, map[int]*second{}, map[asked]sem.Value{}}
}

// reads is what the chapter tells of what goes out.
func reads(f diag.File, number int, ins [][]sem.Value) [][]sem.Value {
	s := reading(f, number, func(port, at int) sem.Value { return ins[at][port] })
	var all [][]sem.Value
	for at := range ins {
		var l []sem.Value
		for port := range f.Diagrams[number].Outs {
			l = append(l, s.out(port, at))
		}
		all = append(all, l)
	}
	return all
}

// weighs is a second reading of a weight.
func weighs(f diag.File, number int) int {
	weight := 1
	for _, b := range f.Diagrams[number].Blocks {
		if b.Kind == diag.Sub {
			weight += weighs(f, b.Sub)
		}
	}
	return weight
}
