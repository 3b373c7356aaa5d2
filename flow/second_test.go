package flow_test

import (
	"slices"
	"strings"

	"shuttlecock/api"
	"shuttlecock/ast"
	"shuttlecock/diag"
)

// second is a second reading of the chapter: it asks one thing after the
// other, of the file as it stands, and ends at the first that is not so. Types
// are letters: i and b.
type second struct{ diag.File }

func (s second) ask(is bool, e api.Errno) {
	if !is {
		panic(e)
	}
}

// reads is what the chapter tells of a file that is right.
func reads(f diag.File) (e api.Errno) {
	defer func() {
		if given := recover(); given != nil {
			e = given.(api.Errno)
		}
	}()
	s := second{f}
	for i := range f.Diagrams {
		s.diagram(i)
	}
	for i := range f.Diagrams {
		s.ask(!s.reach(s.hasAll())[i][i], api.ErrCycle)
	}
	return api.OK
}

func (s second) diagram(i int) {
	d := s.Diagrams[i]
	all := slices.Clone(d.Ins)
	for _, o := range d.Outs {
		all = append(all, o.Port)
	}
	s.ask(ast.Name(d.Name), api.ErrName)
	for _, ahead := range s.Diagrams[:i] {
		s.ask(ahead.Name != d.Name, api.ErrName)
	}
	for j, p := range all {
		s.ask(ast.Name(p.Name), api.ErrName)
		for _, ahead := range all[:j] {
			s.ask(ahead.Name != p.Name, api.ErrName)
		}
	}
	s.ask(len(d.Outs) > 0, api.ErrDefine)
	for _, b := range d.Blocks {
		s.ask(b.Kind != diag.Sub || len(b.From) == len(s.Diagrams[max(0, b.Sub)].Ins), api.ErrArity)
	}
	for j := range d.Blocks {
		s.ask(!s.reach(s.hangsAll(d))[j][j], api.ErrCycle)
	}
	for _, b := range d.Blocks {
		s.ask(s.fits(d, b), api.ErrType)
	}
	for _, o := range d.Outs {
		s.ask(s.letter(d, o.From) == letterOf(o.Port), api.ErrType)
	}
}

func letterOf(p diag.Port) string { return "ib"[p.Type : p.Type+1] }

// letter is the type of a source, if all that it comes of are of the types
// that are asked.
func (s second) letter(d diag.Diagram, from diag.Source) string {
	if from.Block < 0 {
		return letterOf(d.Ins[from.Port])
	}
	b := d.Blocks[from.Block]
	switch b.Kind {
	case diag.Int:
		return "i"
	case diag.Bool:
		return "b"
	case diag.Un, diag.Delay:
		return "ib"[b.Op : b.Op+1]
	case diag.Start:
		return s.letter(d, b.From[0])
	case diag.Choice:
		return s.letter(d, b.From[1])
	case diag.Sub:
		return letterOf(s.Diagrams[b.Sub].Outs[from.Port].Port)
	}
	if strings.Contains(" + - * div mod ", " "+twos[b.Op]+" ") {
		return "i"
	}
	return "b"
}

// fits: are a block's sources of the types that it asks?
func (s second) fits(d diag.Diagram, b diag.Block) bool {
	from, ins := "", ""
	for _, x := range b.From {
		from += s.letter(d, x)
	}
	switch b.Kind {
	case diag.Int, diag.Bool:
		return from == ""
	case diag.Un, diag.Delay:
		return from == "ib"[b.Op:b.Op+1]
	case diag.Start:
		return from == "ii" || from == "bb"
	case diag.Choice:
		return from == "bii" || from == "bbb"
	case diag.Sub:
		for _, p := range s.Diagrams[b.Sub].Ins {
			ins += letterOf(p)
		}
		return from == ins
	}
	all := takes[twos[b.Op]]
	return strings.Contains(all, "ii>") && from == "ii" || strings.Contains(all, "bb>") && from == "bb"
}

// hangsAll tells which blocks hang on which at once.
func (s second) hangsAll(d diag.Diagram) [][]bool {
	all := make([][]bool, len(d.Blocks))
	for i, b := range d.Blocks {
		all[i] = make([]bool, len(d.Blocks))
		for _, x := range b.From {
			if x.Block >= 0 && b.Kind != diag.Delay {
				all[i][x.Block] = true
			}
		}
	}
	return all
}

// hasAll tells which diagrams have which as blocks.
func (s second) hasAll() [][]bool {
	all := make([][]bool, len(s.Diagrams))
	for i, d := range s.Diagrams {
		all[i] = make([]bool, len(s.Diagrams))
		for _, b := range d.Blocks {
			if b.Kind == diag.Sub {
				all[i][b.Sub] = true
			}
		}
	}
	return all
}

// reach tells the same, also by way of others.
func (s second) reach(all [][]bool) [][]bool {
	for k := range all {
		for i := range all {
			for j := range all {
				all[i][j] = all[i][j] || all[i][k] && all[k][j]
			}
		}
	}
	return all
}

// order puts, one by one, the least one behind that has not come, if all on
// which it hangs have.
func order(on [][]bool) []int {
	var all []int
	for range on {
		for i := range on {
			waits := false
			for j, is := range on[i] {
				waits = waits || is && !slices.Contains(all, j)
			}
			if !waits && !slices.Contains(all, i) {
				all = append(all, i)
				break
			}
		}
	}
	return all
}
