package bdf_test

import (
	"bytes"
	"fmt"
	"math"
	"slices"
	"strconv"
	"strings"
	"testing"

	"shuttlecock/api"
	"shuttlecock/bdf"
	"shuttlecock/diag"
)

// The calls have the signatures of the document.
var (
	_ func(diag.File) ([]byte, api.Errno) = bdf.Encode
	_ func([]byte) (diag.File, api.Errno) = bdf.Decode
)

// in is the in-port of a number, and at a block's result.
func in(port int) diag.Source { return diag.Source{Block: -1, Port: port} }

func at(block, port int) diag.Source { return diag.Source{Block: block, Port: port} }

// of is a file of these diagrams.
func of(all ...diag.Diagram) diag.File { return diag.File{Diagrams: all} }

// told is what there is to see of a file, as far as it is not too much.
func told(f diag.File) string {
	s := fmt.Sprintf("%+v", f)
	return s[:min(len(s), 1000)]
}

// stands asks whether a file has these bytes, both ways.
func stands(t *testing.T, what string, f diag.File, want []byte) {
	t.Helper()
	b, e := bdf.Encode(f)
	if e != api.OK || !bytes.Equal(b, want) {
		t.Errorf("P13.1: %s: %d, %.300x, not %.300x", what, e, b, want)
	}
	g, e := bdf.Decode(want)
	if e != api.OK || !g.Same(f) {
		t.Errorf("P13.2: %s: %d, %s, not %s", what, e, told(g), told(f))
	}
}

// wrong asks whether bytes are no file's, and with which error.
func wrong(t *testing.T, what string, b []byte, want api.Errno) {
	t.Helper()
	if f, e := bdf.Decode(b); e != want || len(f.Diagrams) != 0 {
		t.Errorf("P13.2: %s: %d, not %d: %s", what, e, want, told(f))
	}
}

// TestNothing is the chapter's example: a file without diagrams.
func TestNothing(t *testing.T) {
	want := "\x53\x48\x55\x54\x01\x00" +
		"\x01\x01\x00\x00\x00\x00\x8d\xef\x02\xd2" +
		"\x02\x01\x00\x00\x00\x00\x8d\xef\x02\xd2" +
		"\x03\x00\x00\x00\x00\x00\x00\x00\x00"
	stands(t, "no diagrams", diag.File{}, summed([]byte(want), []byte(want)))
	stands(t, "an empty list of diagrams", diag.File{Diagrams: []diag.Diagram{}}, whole("\x00", "\x00", ""))
}

// small is a file of three diagrams with all that a file may have. Each one is
// made anew.
func small() diag.File {
	return of(
		diag.Diagram{
			Name: "pair",
			Ins:  []diag.Port{{Name: "a"}, {Name: "b", Type: 1}},
			Outs: []diag.Out{{Port: diag.Port{Name: "x"}, From: in(0)}, {Port: diag.Port{Name: "y", Type: 1}, From: in(1)}},
		},
		diag.Diagram{
			Name: "all",
			Ins:  []diag.Port{{Name: "b"}, {Name: "c", Type: 1}},
			Outs: []diag.Out{{Port: diag.Port{Name: "all"}, From: at(3, 0)}, {Port: diag.Port{Name: "", Type: 1}, From: at(7, 1)}},
			Blocks: []diag.Block{
				{Kind: diag.Int, N: 300, X: 1, Y: 2},
				{Kind: diag.Bool, N: 1, X: -1},
				{Kind: diag.Un, Op: 1, From: []diag.Source{at(1, 0)}},
				{Kind: diag.Bin, Op: 15, From: []diag.Source{in(0), at(5, 0)}},
				{Kind: diag.Delay, Op: 1, From: []diag.Source{at(2, 0)}},
				{Kind: diag.Start, From: []diag.Source{at(0, 0), at(3, 0)}},
				{Kind: diag.Choice, From: []diag.Source{in(1), at(4, 0), at(7, 1)}, Y: math.MinInt32},
				{Kind: diag.Sub, Sub: 0, From: []diag.Source{at(7, 0), at(6, 0)}},
				{Kind: diag.Sub, Sub: 2},
			},
		},
		diag.Diagram{Name: "\xff", Blocks: []diag.Block{{Kind: diag.Sub, Sub: 1, From: []diag.Source{at(0, 0), at(0, 1), at(0, 1)}, X: math.MaxInt32, Y: -2}}},
	)
}

// smallNames, smallParts and smallPlaces are what stands in the three sections
// of small, by hand.
const (
	smallNames = "\x09\x04pair\x01a\x01b\x01x\x01y\x03all\x01c\x00\x01\xff"
	smallParts = "\x03" +
		"\x00\x02\x01\x00\x02\x01\x02\x03\x00\x00\x00\x04\x01\x00\x01\x00" +
		"\x05\x02\x02\x00\x06\x01\x02\x05\x00\x04\x00\x07\x01\x08\x01\x09" +
		"\x00\xac\x02" + "\x01\x01" + "\x02\x01\x02\x00" + "\x03\x0f\x00\x00\x06\x00" + "\x04\x01\x03\x00" +
		"\x05\x01\x00\x04\x00" + "\x06\x00\x01\x05\x00\x08\x01" + "\x07\x00\x02\x08\x00\x07\x00" + "\x07\x02\x00" +
		"\x08\x00\x00\x01\x07\x01\x03\x01\x00\x01\x01\x01\x01"
	smallPlaces = "\x01\x00\x00\x00\x02\x00\x00\x00" + "\xff\xff\xff\xff\x00\x00\x00\x00" +
		"\x00\x00\x00\x00\x00\x00\x00\x00" + "\x00\x00\x00\x00\x00\x00\x00\x00" + "\x00\x00\x00\x00\x00\x00\x00\x00" +
		"\x00\x00\x00\x00\x00\x00\x00\x00" + "\x00\x00\x00\x00\x00\x00\x00\x80" + "\x00\x00\x00\x00\x00\x00\x00\x00" +
		"\x00\x00\x00\x00\x00\x00\x00\x00" + "\xff\xff\xff\x7f\xfe\xff\xff\xff"
)

func TestByHand(t *testing.T) {
	stands(t, "three diagrams", small(), whole(smallNames, smallParts, smallPlaces))
}

// TestParts asks for each block's bytes, in a diagram of two in-ports.
func TestParts(t *testing.T) {
	two := func(op int) diag.Block {
		return diag.Block{Kind: diag.Bin, Op: op, From: []diag.Source{in(1), at(0, 0)}}
	}
	one := func(kind, op int) diag.Block {
		return diag.Block{Kind: kind, Op: op, From: []diag.Source{in(1)}}
	}
	type part struct {
		b    diag.Block
		want string
	}
	all := []part{
		{diag.Block{N: 0}, "\x00\x00"},
		{diag.Block{N: 127}, "\x00\x7f"},
		{diag.Block{N: 128}, "\x00\x80\x01"},
		{diag.Block{N: 16384}, "\x00\x80\x80\x01"},
		{diag.Block{N: math.MaxInt64}, "\x00\xff\xff\xff\xff\xff\xff\xff\xff\x7f"},
		{diag.Block{Kind: diag.Bool}, "\x01\x00"},
		{diag.Block{Kind: diag.Bool, N: 1}, "\x01\x01"},
		{one(diag.Un, 0), "\x02\x00\x00\x01"},
		{one(diag.Un, 1), "\x02\x01\x00\x01"},
		{one(diag.Delay, 0), "\x04\x00\x00\x01"},
		{one(diag.Delay, 1), "\x04\x01\x00\x01"},
		{diag.Block{Kind: diag.Start, From: []diag.Source{at(0, 0), in(0)}}, "\x05\x01\x00\x00\x00"},
		{diag.Block{Kind: diag.Choice, From: []diag.Source{at(0, 0), in(0), in(1)}}, "\x06\x01\x00\x00\x00\x00\x01"},
		{diag.Block{Kind: diag.Sub}, "\x07\x00\x00"},
		{diag.Block{Kind: diag.Sub, Sub: 1}, "\x07\x01\x00"},
		{diag.Block{Kind: diag.Sub, Sub: 1, From: []diag.Source{in(0)}}, "\x07\x01\x01\x00\x00"},
		{diag.Block{Kind: diag.Sub, Sub: 0, From: slices.Repeat([]diag.Source{in(1)}, 200)}, "\x07\x00\xc8\x01" + strings.Repeat("\x00\x01", 200)},
	}
	for op := 1; op <= 15; op++ {
		all = append(all, part{two(op), "\x03" + string(rune(op)) + "\x00\x01\x01\x00"})
	}
	for _, c := range all {
		d := diag.Diagram{Name: "f", Ins: make([]diag.Port, 2), Blocks: []diag.Block{{Kind: diag.Bool}, c.b}}
		want := whole(texts("f", ""), "\x02\x00\x02\x01\x00\x01\x00\x00\x02\x01\x00"+c.want+"\x00\x00\x00\x00", strings.Repeat("\x00", 16))
		stands(t, "the kind "+strconv.Itoa(c.b.Kind), of(d, diag.Diagram{Name: "f"}), want)
	}
}

// TestWhere asks for the bytes of where a block stands.
func TestWhere(t *testing.T) {
	for x, long := range map[int32]string{
		0: "\x00\x00\x00\x00", 1: "\x01\x00\x00\x00", 258: "\x02\x01\x00\x00", math.MaxInt32: "\xff\xff\xff\x7f",
		-1: "\xff\xff\xff\xff", -2: "\xfe\xff\xff\xff", math.MinInt32: "\x00\x00\x00\x80", math.MinInt32 + 1: "\x01\x00\x00\x80",
	} {
		d := diag.Diagram{Blocks: []diag.Block{{X: x, Y: 7}, {X: 8, Y: x}}}
		parts := "\x01\x00\x00\x00\x02\x00\x00\x00\x00"
		stands(t, "at "+strconv.Itoa(int(x)), of(d), whole("\x01\x00", parts, long+"\x07\x00\x00\x00\x08\x00\x00\x00"+long))
	}
}

// TestNames asks for the order of Names, each of which stands there once.
func TestNames(t *testing.T) {
	ports := func(all ...string) []diag.Port {
		var ports []diag.Port
		for _, name := range all {
			ports = append(ports, diag.Port{Name: name})
		}
		return ports
	}
	outs := func(all ...string) []diag.Out {
		var outs []diag.Out
		for _, p := range ports(all...) {
			outs = append(outs, diag.Out{Port: p, From: in(0)})
		}
		return outs
	}
	f := of(
		diag.Diagram{Name: "z", Ins: ports("y", "z", "x", "y"), Outs: outs("w", "x", "b")},
		diag.Diagram{Name: "a", Ins: ports("c"), Outs: outs("d", "z")},
		diag.Diagram{Name: "b"},
		diag.Diagram{Name: "e"},
	)
	parts := "\x04" +
		"\x00\x04\x01\x00\x00\x00\x02\x00\x01\x00\x03\x03\x00\x00\x00\x02\x00\x00\x00\x04\x00\x00\x00\x00" +
		"\x05\x01\x06\x00\x02\x07\x00\x00\x00\x00\x00\x00\x00\x00" +
		"\x04\x00\x00\x00" +
		"\x08\x00\x00\x00"
	stands(t, "nine names", f, whole(texts("z", "y", "x", "w", "b", "a", "c", "d", "e"), parts, ""))
	long := strings.Repeat("n", 65535)
	stands(t, "a name of 65535 bytes", of(diag.Diagram{Name: long}), whole("\x01\xff\xff\x03"+long, "\x01\x00\x00\x00\x00", ""))
}

// many is a file of a diagram with so many of everything, of names of their
// own, and of sources by all numbers.
func many(n int) diag.File {
	d := diag.Diagram{Name: "many"}
	for i := range n {
		d.Ins = append(d.Ins, diag.Port{Name: "i" + strconv.Itoa(i), Type: i % 2})
		d.Outs = append(d.Outs, diag.Out{Port: diag.Port{Name: "o" + strconv.Itoa(i), Type: i / 2 % 2}, From: in(i)})
		d.Blocks = append(d.Blocks, diag.Block{Kind: diag.Sub, From: []diag.Source{at(i, i), at(n-1-i, 0), in(i)}, X: int32(i), Y: int32(-i)})
	}
	return of(d, diag.Diagram{Name: "i200", Blocks: make([]diag.Block, n)})
}

// TestMany asks of numbers by sevens of one, two and three bytes.
func TestMany(t *testing.T) {
	for _, n := range []int{1, 63, 64, 127, 128, 129, 300} {
		f := many(n)
		stands(t, strconv.Itoa(n)+" of all", f, whole(sections(f)))
	}
	d := diag.Diagram{Blocks: make([]diag.Block, 20000)}
	for i := range d.Blocks {
		d.Blocks[i] = diag.Block{Kind: diag.Delay, From: []diag.Source{at(len(d.Blocks)-1-i, 0)}, X: int32(i)}
	}
	stands(t, "20000 blocks", of(d), whole(sections(of(d))))
	var f diag.File
	for i := range 300 {
		f.Diagrams = append(f.Diagrams, diag.Diagram{Name: strconv.Itoa(i % 7), Blocks: []diag.Block{{Kind: diag.Sub, Sub: 299 - i}}})
	}
	stands(t, "300 diagrams", f, whole(sections(f)))
}

// TestNotRight asks for the bytes of files that are not right.
func TestNotRight(t *testing.T) {
	for what, change := range map[string]func(d *diag.Diagram){
		"a long name":             func(d *diag.Diagram) { d.Name = strings.Repeat("n", 65536) },
		"a long name of an In":    func(d *diag.Diagram) { d.Ins[1].Name = strings.Repeat("n", 65536) },
		"a long name of an Out":   func(d *diag.Diagram) { d.Outs[1].Port.Name = strings.Repeat("n", 70000) },
		"an In's Type":            func(d *diag.Diagram) { d.Ins[0].Type = 2 },
		"an Out's Type":           func(d *diag.Diagram) { d.Outs[0].Port.Type = -1 },
		"a Type that is one byte": func(d *diag.Diagram) { d.Outs[0].Port.Type = 256 },
		"an Out's source":         func(d *diag.Diagram) { d.Outs[0].From = at(9, 0) },
		"an Out's in-port":        func(d *diag.Diagram) { d.Outs[0].From = in(2) },
		"a block below -1":        func(d *diag.Diagram) { d.Outs[0].From = at(-2, 0) },
		"a kind above all":        func(d *diag.Diagram) { d.Blocks[0].Kind = 8 },
		"a kind below all":        func(d *diag.Diagram) { d.Blocks[0].Kind = -1 },
		"a kind of one byte":      func(d *diag.Diagram) { d.Blocks[0].Kind = 256 },
		"a number below 0":        func(d *diag.Diagram) { d.Blocks[0].N = -1 },
		"an int with an op":       func(d *diag.Diagram) { d.Blocks[0].Op = 1 },
		"a bool of 2":             func(d *diag.Diagram) { d.Blocks[1].N = 2 },
		"a bool of one byte":      func(d *diag.Diagram) { d.Blocks[1].N = 257 },
		"an op of one":            func(d *diag.Diagram) { d.Blocks[2].Op = 2 },
		"an arrow":                func(d *diag.Diagram) { d.Blocks[3].Op = 0 },
		"an op of two":            func(d *diag.Diagram) { d.Blocks[3].Op = 16 },
		"a delay's type":          func(d *diag.Diagram) { d.Blocks[4].Op = 2 },
		"a start with a number":   func(d *diag.Diagram) { d.Blocks[5].N = 1 },
		"a choice with a diagram": func(d *diag.Diagram) { d.Blocks[6].Sub = 1 },
		"a diagram of none":       func(d *diag.Diagram) { d.Blocks[7].Sub = 3 },
		"a source less":           func(d *diag.Diagram) { d.Blocks[3].From = d.Blocks[3].From[:1] },
		"a source more":           func(d *diag.Diagram) { d.Blocks[0].From = []diag.Source{in(0)} },
		"a result":                func(d *diag.Diagram) { d.Blocks[2].From[0].Port = 1 },
	} {
		f := small()
		change(&f.Diagrams[1])
		if b, e := bdf.Encode(f); len(b) != 0 || e != api.ErrArg {
			t.Errorf("P13.1: %s: %.100x, %d, not nothing and %d", what, b, e, api.ErrArg)
		}
	}
}
