package flow_test

import (
	"slices"
	"strconv"
	"strings"
	"testing"

	"shuttlecock/api"
	"shuttlecock/diag"
	"shuttlecock/sketch"
)

// ports are so many ints, of names of their own that begin with that.
func ports(begin string, many int) []diag.Port {
	all := make([]diag.Port, many)
	for i := range all {
		all[i].Name = begin + strconv.Itoa(i)
	}
	return all
}

// outs are so many, all of the block 0.
func outs(many int) []diag.Out {
	var all []diag.Out
	for _, p := range ports("o", many) {
		all = append(all, diag.Out{Port: p})
	}
	return all
}

// ints are so many blocks.
func ints(many int) []diag.Block { return make([]diag.Block, many) }

// subs are so many blocks of a diagram, each of so many sources of the block 0.
func subs(number, many, sources int) []diag.Block {
	return slices.Repeat([]diag.Block{{Kind: diag.Sub, Sub: number, From: make([]diag.Source, sources)}}, many)
}

func TestLimits(t *testing.T) {
	bare := func(name string) diag.Diagram { return diag.Diagram{Name: name, Outs: outs(1), Blocks: ints(1)} }
	of := func(d ...diag.Diagram) diag.File { return diag.File{Diagrams: d} }
	for what, put := range map[string]func(most int) diag.File{
		"diagrams": func(most int) diag.File {
			var f diag.File
			for i := range most {
				f.Diagrams = append(f.Diagrams, bare("d"+strconv.Itoa(i)))
			}
			return f
		},
		"Ins": func(most int) diag.File {
			return of(bare("g"), diag.Diagram{Name: "f", Ins: ports("i", most), Outs: outs(1), Blocks: ints(1)})
		},
		"Outs, and a block": func(most int) diag.File {
			return of(bare("g"), diag.Diagram{Name: "f", Outs: outs(most - 1), Blocks: ints(1)})
		},
		"blocks, and an Out": func(most int) diag.File {
			return of(bare("g"), diag.Diagram{Name: "f", Outs: outs(1), Blocks: ints(most - 1)})
		},
		"blocks and Outs": func(most int) diag.File {
			return of(bare("g"), diag.Diagram{Name: "f", Outs: outs(500), Blocks: ints(most - 500)})
		},
		"results of other kinds": func(most int) diag.File {
			b := diag.Block{Kind: diag.Delay, From: make([]diag.Source, 1)}
			return of(bare("g"), diag.Diagram{Name: "f", Outs: outs(1), Blocks: append(ints(1), slices.Repeat([]diag.Block{b}, most-2)...)})
		},
		"Outs that are in-ports": func(most int) diag.File {
			d := diag.Diagram{Name: "f", Ins: ports("i", 1), Outs: outs(most)}
			for i := range d.Outs {
				d.Outs[i].From.Block = -1
			}
			return of(d, bare("g"))
		},
		"results of diagrams, and Outs": func(most int) diag.File {
			one := diag.Diagram{Name: "f", Outs: outs(most - 1 - 900), Blocks: append(ints(1), subs(1, 3, 0)...)}
			return of(one, diag.Diagram{Name: "g", Outs: outs(300), Blocks: ints(1)})
		},
		"sources": func(most int) diag.File {
			g := bare("g")
			g.Ins = ports("i", most)
			return of(diag.Diagram{Name: "f", Outs: outs(1), Blocks: append(ints(1), subs(1, 2, most)...)}, g)
		},
	} {
		answers(t, "1000 of "+what, put(1000), api.OK)
		answers(t, "999 of "+what, put(999), api.OK)
		answers(t, "1001 of "+what, put(1001), api.ErrRange)
		answers(t, "2000 of "+what, put(2000), api.ErrRange)
	}
}

// TestMoreSources asks of sources that are more than may be, whatever the
// diagram has, and of blocks that have no results.
func TestMoreSources(t *testing.T) {
	g := diag.Diagram{Name: "g", Outs: outs(1), Blocks: ints(1)}
	with := func(d diag.Diagram, blocks ...diag.Block) diag.File {
		return diag.File{Diagrams: []diag.Diagram{{Name: "f", Outs: outs(1), Blocks: append(ints(1), blocks...)}, d}}
	}
	answers(t, "1000 sources of none", with(g, subs(1, 1, 1000)...), api.ErrArity)
	answers(t, "1001 sources of none", with(g, subs(1, 1, 1001)...), api.ErrRange)
	answers(t, "1001 sources of the last", with(g, append(subs(1, 1, 0), subs(1, 1, 1001)...)...), api.ErrRange)
	g.Outs = nil
	answers(t, "998 blocks without results", with(g, subs(1, 998, 0)...), api.ErrDefine)
	answers(t, "999 blocks without results", with(g, subs(1, 999, 0)...), api.ErrRange)
}

// faults are changes of the first diagram of a file, by the errors in the
// order in which they are asked.
var faults = []struct {
	e   api.Errno
	all map[string]func(d *diag.Diagram)
}{
	{api.ErrName, map[string]func(d *diag.Diagram){
		"its name":          func(d *diag.Diagram) { d.Name = "1" },
		"an In's name":      func(d *diag.Diagram) { d.Ins[2].Name = "" },
		"Ins' names":        func(d *diag.Diagram) { d.Ins[2].Name = "a" },
		"no Out's, an In's": func(d *diag.Diagram) { d.Ins[2].Name = "if" },
	}},
	{api.ErrDefine, map[string]func(d *diag.Diagram){
		"no Out": func(d *diag.Diagram) { d.Outs = nil },
	}},
	{api.ErrRange, map[string]func(d *diag.Diagram){
		"Ins":     func(d *diag.Diagram) { d.Ins = append(d.Ins, ports("i", 1000)...) },
		"blocks":  func(d *diag.Diagram) { d.Blocks = append(d.Blocks, ints(1000)...) },
		"sources": func(d *diag.Diagram) { d.Blocks[1].From = make([]diag.Source, 1001) },
	}},
	{api.ErrArity, map[string]func(d *diag.Diagram){
		"too few":  func(d *diag.Diagram) { d.Blocks[2].From = nil },
		"too many": func(d *diag.Diagram) { d.Blocks[2].From = make([]diag.Source, 3) },
	}},
	{api.ErrCycle, map[string]func(d *diag.Diagram){
		"an op":     func(d *diag.Diagram) { d.Blocks[3].From[0] = diag.Source{Block: 3} },
		"by others": func(d *diag.Diagram) { d.Blocks[3].From[0] = diag.Source{Block: 4} },
	}},
	{api.ErrType, map[string]func(d *diag.Diagram){
		"an op":   func(d *diag.Diagram) { d.Blocks[5].Kind, d.Blocks[5].Op = diag.Un, 1 },
		"a delay": func(d *diag.Diagram) { d.Blocks[6].Op = 1 },
	}},
}

// base is a sound file.
func base(t *testing.T) diag.File {
	return sketch.File(`
f a:int c:bool x:int > b:int=#3 | 5 | @g a | @g #0 | + a #0 | neg #3 | neg a | delay int a
g a:int > b:int=#0 | neg a
h a:int > b:int=#0 | @g a
`)
}

// TestWhatIsFirst puts two faults to a diagram: the one that is asked first
// counts.
func TestWhatIsFirst(t *testing.T) {
	answers(t, "no fault", base(t), api.OK)
	for i, one := range faults {
		for what, change := range one.all {
			f := base(t)
			change(&f.Diagrams[0])
			answers(t, what, f, one.e)
			for _, two := range faults[i+1:] {
				for other, again := range two.all {
					f := base(t)
					again(&f.Diagrams[0])
					change(&f.Diagrams[0])
					answers(t, what+", and "+other, f, one.e)
				}
			}
			for _, two := range faults {
				for other, again := range two.all {
					f, o := base(t), base(t)
					change(&f.Diagrams[0])
					again(&o.Diagrams[0])
					o.Diagrams[0].Name = strings.Replace(o.Diagrams[0].Name, "f", "last", 1)
					f.Diagrams = append(f.Diagrams, o.Diagrams[0])
					answers(t, what+", and behind it "+other, f, one.e)
				}
			}
		}
	}
}

// TestWhatIsLast asks of diagrams that have themselves, and of other faults
// behind them.
func TestWhatIsLast(t *testing.T) {
	for _, one := range faults {
		for what, change := range one.all {
			f := base(t)
			f.Diagrams[1].Blocks = append(f.Diagrams[1].Blocks, diag.Block{Kind: diag.Sub, Sub: 2, From: []diag.Source{{Block: -1}}})
			answers(t, "diagrams of themselves", f, api.ErrCycle)
			last := base(t).Diagrams[0]
			change(&last)
			last.Name = strings.Replace(last.Name, "f", "last", 1)
			f.Diagrams = append(f.Diagrams, last)
			answers(t, "diagrams of themselves, and "+what, f, one.e)
		}
	}
}

// TestManyDiagrams asks of more diagrams than may be: that is asked of the
// first one, behind its names and Outs.
func TestManyDiagrams(t *testing.T) {
	many := func(change func(d []diag.Diagram)) diag.File {
		f := base(t)
		for i := range 1000 {
			f.Diagrams = append(f.Diagrams, diag.Diagram{Name: "d" + strconv.Itoa(i), Outs: outs(1), Blocks: ints(1)})
		}
		change(f.Diagrams)
		return f
	}
	for _, one := range faults {
		for what, change := range one.all {
			want := api.ErrRange
			if one.e == api.ErrName || one.e == api.ErrDefine {
				want = one.e
			}
			answers(t, "1003 diagrams, and "+what, many(func(d []diag.Diagram) { change(&d[0]) }), want)
		}
	}
	answers(t, "1003 diagrams, of which two have a name", many(func(d []diag.Diagram) { d[1].Name = "f" }), api.ErrRange)
	answers(t, "1003 diagrams, one without Outs", many(func(d []diag.Diagram) { d[5].Outs = nil }), api.ErrRange)
	answers(t, "1003 diagrams, of which the last has none", many(func(d []diag.Diagram) { d[1002].Name = "" }), api.ErrRange)
}

func TestNotRight(t *testing.T) {
	for what, change := range map[string]func(d *diag.Diagram){
		"a source":        func(d *diag.Diagram) { d.Blocks[3].From[0].Block = 7 },
		"a result":        func(d *diag.Diagram) { d.Blocks[3].From[0] = diag.Source{Block: 1, Port: 1} },
		"an in-port":      func(d *diag.Diagram) { d.Blocks[3].From[0] = diag.Source{Block: -1, Port: 3} },
		"an Out's source": func(d *diag.Diagram) { d.Outs[0].From.Block = -2 },
		"a kind":          func(d *diag.Diagram) { d.Blocks[0].Kind = 8 },
		"an op":           func(d *diag.Diagram) { d.Blocks[5].Op = 2 },
		"an arrow":        func(d *diag.Diagram) { d.Blocks[3].Op = 0 },
		"a diagram":       func(d *diag.Diagram) { d.Blocks[1].Sub = 9 },
		"a number":        func(d *diag.Diagram) { d.Blocks[0].N = -1 },
		"a Type":          func(d *diag.Diagram) { d.Ins[2].Type = 2 },
		"a source less":   func(d *diag.Diagram) { d.Blocks[3].From = d.Blocks[3].From[:1] },
		"a long name":     func(d *diag.Diagram) { d.Name = strings.Repeat("f", 65536) },
	} {
		f := base(t)
		change(&f.Diagrams[0])
		answers(t, what, f, api.ErrArg)
		f = base(t)
		f.Diagrams = append(f.Diagrams, f.Diagrams[0])
		f.Diagrams[0] = diag.Diagram{Name: "1"}
		f.Diagrams[3].Blocks = slices.Clone(f.Diagrams[3].Blocks)
		change(&f.Diagrams[3])
		answers(t, what+", and a name ahead", f, api.ErrArg)
	}
	f := base(t)
	f.Diagrams[0].Name = strings.Repeat("f", 65535)
	answers(t, "a name of 65535 bytes", f, api.ErrName)
}
