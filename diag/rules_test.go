package diag_test

import (
	"math"
	"math/rand/v2"
	"reflect"
	"slices"
	"strconv"
	"strings"
	"testing"

	"shuttlecock/diag"
)

// maker makes files that are mostly right, so that what is not is met in many
// places.
type maker struct {
	*rand.Rand
	f *diag.File
}

// number is mostly one of so many, and at times another one.
func (m maker) number(many int) int {
	if many < 1 || m.IntN(300) == 0 {
		return []int{math.MinInt, -2, -1, many, many + 1, math.MaxInt}[m.IntN(6)]
	}
	return m.IntN(many)
}

func (m maker) port() diag.Port {
	return diag.Port{Name: []string{"", "a", "b\x00"}[m.IntN(3)], Type: m.number(2)}
}

// source is one of a diagram whose blocks have as many results as are told.
func (m maker) source(ins int, results []int) diag.Source {
	block := m.number(len(results)+1) - 1
	if block < 0 || block >= len(results) {
		return at(block, m.number(ins))
	}
	return at(block, m.number(results[block]))
}

// block is one without sources.
func (m maker) block() diag.Block {
	b := diag.Block{Kind: m.number(8), X: int32(m.Uint32()), Y: int32(m.IntN(5))}
	switch b.Kind {
	case diag.Int, diag.Bool:
		b.N = int64(m.number(2))
	case diag.Un, diag.Delay:
		b.Op = m.number(2)
	case diag.Bin:
		b.Op = 1 + m.number(15)
	case diag.Sub:
		b.Sub = m.number(len(m.f.Diagrams))
	}
	return b
}

// anyFile is that of a seed.
func anyFile(seed uint64) diag.File {
	m := maker{Rand: rand.New(rand.NewPCG(seed, 10)), f: &diag.File{}}
	m.f.Diagrams = make([]diag.Diagram, m.IntN(5))
	for i := range m.f.Diagrams {
		d := &m.f.Diagrams[i]
		d.Name = strings.Repeat("x", m.IntN(3))
		for range m.IntN(4) {
			d.Ins = append(d.Ins, m.port())
		}
		d.Outs = make([]diag.Out, m.IntN(4))
		for range m.IntN(6) {
			d.Blocks = append(d.Blocks, m.block())
		}
	}
	for i := range m.f.Diagrams {
		m.join(&m.f.Diagrams[i])
	}
	return *m.f
}

// join puts sources to all that has some.
func (m maker) join(d *diag.Diagram) {
	var results []int
	for _, b := range d.Blocks {
		many := 1
		if b.Kind == diag.Sub && b.Sub >= 0 && b.Sub < len(m.f.Diagrams) {
			many = len(m.f.Diagrams[b.Sub].Outs)
		}
		results = append(results, many)
	}
	for i := range d.Outs {
		d.Outs[i] = diag.Out{Port: m.port(), From: m.source(len(d.Ins), results)}
	}
	for i := range d.Blocks {
		many := m.IntN(4)
		if kind := d.Blocks[i].Kind; kind >= 0 && kind < diag.Sub && m.IntN(50) > 0 {
			many = []int{0, 0, 1, 2, 1, 2, 3}[kind]
		}
		for range many {
			d.Blocks[i].From = append(d.Blocks[i].From, m.source(len(d.Ins), results))
		}
	}
}

// there are the sources that there are in a diagram.
func there(f diag.File, d diag.Diagram) []diag.Source {
	var all []diag.Source
	for i := range d.Ins {
		all = append(all, in(i))
	}
	for i, b := range d.Blocks {
		switch {
		case b.Kind != diag.Sub:
			all = append(all, at(i, 0))
		case b.Sub >= 0 && b.Sub < len(f.Diagrams):
			for j := range f.Diagrams[b.Sub].Outs {
				all = append(all, at(i, j))
			}
		}
	}
	return all
}

// reads is what the chapter tells of a file with short lists and names.
func reads(f diag.File) bool {
	typed := func(p diag.Port) bool { return p.Type == 0 || p.Type == 1 }
	for _, d := range f.Diagrams {
		sources := there(f, d)
		for _, p := range d.Ins {
			if !typed(p) {
				return false
			}
		}
		for _, o := range d.Outs {
			if !typed(o.Port) || !slices.Contains(sources, o.From) {
				return false
			}
		}
		for _, b := range d.Blocks {
			for _, s := range b.From {
				if !slices.Contains(sources, s) {
					return false
				}
			}
			if !plain(b, len(f.Diagrams)) {
				return false
			}
		}
	}
	return true
}

// told is all that the calls answer of a file.
func told(f diag.File) string {
	s := strconv.FormatBool(f.Right()) + strconv.FormatBool(f.Same(f)) + strconv.FormatBool(f.Same(small()))
	for _, d := range f.Diagrams {
		for _, b := range d.Blocks {
			s += " " + strconv.Itoa(f.Results(b))
		}
	}
	return s
}

func TestWhateverComes(t *testing.T) {
	rights := 0
	for seed := range uint64(20000) {
		f, kept := anyFile(seed), anyFile(seed)
		if f.Right() != reads(f) {
			t.Fatalf("P10.1: seed %d: %t: %+v", seed, f.Right(), f)
		}
		if f.Right() {
			rights++
		}
		first := told(f)
		if !reflect.DeepEqual(f, kept) {
			t.Fatalf("R4: seed %d: what is handed in is changed", seed)
		}
		if !f.Same(kept) || !kept.Same(f) {
			t.Fatalf("P10.1: seed %d: not the same as its copy", seed)
		}
		if o := anyFile(seed + 1); f.Same(o) != reflect.DeepEqual(f, o) {
			t.Fatalf("P10.1: seed %d: the same as the next one: %t", seed, f.Same(o))
		}
		if told(f) != first || told(kept) != first {
			t.Fatalf("R6: seed %d: asked twice, and not answered likewise", seed)
		}
	}
	if rights < 5000 || rights > 15000 {
		t.Errorf("%d of 20000 are right", rights)
	}
}

func TestNothingIsKept(t *testing.T) {
	f := small()
	first := told(f)
	for seed := range uint64(300) {
		told(anyFile(seed))
	}
	f.Diagrams[1].Blocks[8].Sub = 9
	if f.Right() || f.Same(small()) || f.Results(f.Diagrams[1].Blocks[8]) != 0 {
		t.Error("R6: what was right ahead of a change is right behind it")
	}
	if told(small()) != first {
		t.Error("R6: what is answered hangs on what was asked ahead of it")
	}
}
