package bdf_test

import (
	"bytes"
	"math/rand/v2"
	"reflect"
	"slices"
	"testing"

	"shuttlecock/api"
	"shuttlecock/bdf"
	"shuttlecock/diag"
	"shuttlecock/sketch"
)

// dice are those of a seed.
func dice(seed uint64) *rand.Rand {
	return rand.New(rand.NewPCG(seed, 13))
}

// anyFile is that of a seed: of three one is sound.
func anyFile(seed uint64) diag.File {
	if seed%3 == 0 {
		return sketch.Any(dice(seed))
	}
	return sketch.Loose(dice(seed))
}

// TestAnyFile holds the bytes of any files against the second reading, and
// what they are decoded to against the files.
func TestAnyFile(t *testing.T) {
	for seed := range uint64(10000) {
		f, kept := anyFile(seed), anyFile(seed)
		want := whole(sections(f))
		b, e := bdf.Encode(f)
		if e != api.OK || !bytes.Equal(b, want) {
			t.Fatalf("P13.1: seed %d: %d, %x, not %x", seed, e, b, want)
		}
		if !reflect.DeepEqual(f, kept) {
			t.Fatalf("R4: seed %d: what is handed in is changed", seed)
		}
		g, e := bdf.Decode(b)
		if e != api.OK || !g.Same(f) {
			t.Fatalf("P13.3: seed %d: %d, %+v, not %+v", seed, e, g, f)
		}
		if !bytes.Equal(b, want) {
			t.Fatalf("R4: seed %d: the bytes that are handed in are changed", seed)
		}
	}
}

// spoil changes some bytes of a section.
func spoil(d *rand.Rand, section string) string {
	some := []string{"\x00", "\x01", "\x02", "\x07", "\x08", "\x7f", "\x80", "\xff", "\x80\x00", below24, just24, above24, just63}
	b := []byte(section)
	at := d.IntN(len(b) + 1)
	word := []byte(some[d.IntN(len(some))])
	switch x := d.IntN(7); {
	case x == 0:
		b = b[:at]
	case x == 1:
		b = slices.Insert(b, at, word...)
	case x == 2:
		b = append(b, word...)
	case x == 3 && at < len(b):
		b = slices.Replace(b, at, at+1, word...)
	case x == 4 && at < len(b):
		b = slices.Delete(b, at, at+1)
	case x == 5 && at < len(b):
		b[at] ^= 1 << d.IntN(8)
	case at < len(b):
		b[at] += byte(d.IntN(3)) - 1
	}
	return string(b)
}

// anyBytes are mostly no file's: within the sections, or in what stands around
// them, something is another thing, and mostly the sums are of that.
func anyBytes(seed uint64) []byte {
	d := dice(seed)
	in := [3]string{}
	in[0], in[1], in[2] = sections(anyFile(seed / 4))
	for range d.IntN(3) {
		i := []int{0, 1, 1, 1, 1, 2}[d.IntN(6)]
		in[i] = spoil(d, in[i])
	}
	b := whole(in[0], in[1], in[2])
	if d.IntN(4) == 0 {
		b = []byte(spoil(d, string(b)))
		if len(b) > 4 && d.IntN(3) > 0 {
			b = summed(b[:len(b)-4], b[:len(b)-4])
		}
	}
	return b
}

// TestWhateverComes holds what is decoded of any bytes against the second
// reading.
func TestWhateverComes(t *testing.T) {
	count := map[api.Errno]int{}
	for seed := range uint64(60000) {
		b := anyBytes(seed)
		kept := bytes.Clone(b)
		want, e, either := reads(b)
		f, got := bdf.Decode(b)
		switch {
		case either:
			if got == api.OK {
				t.Fatalf("P13.2: seed %d: decoded: %x", seed, b)
			}
		case got != e:
			t.Fatalf("P13.2: seed %d: %d, not %d: %x", seed, got, e, b)
		}
		count[got]++
		if !bytes.Equal(b, kept) {
			t.Fatalf("R4: seed %d: what is handed in is changed", seed)
		}
		if got != api.OK {
			if len(f.Diagrams) > 0 {
				t.Fatalf("R2: seed %d: something beside an error: %+v", seed, f)
			}
			continue
		}
		if !f.Same(want) {
			t.Fatalf("P13.2: seed %d: %+v, not %+v", seed, f, want)
		}
		if again, e := bdf.Encode(f); e != api.OK || !bytes.Equal(again, b) {
			t.Fatalf("P13.3: seed %d: %d, %x, not %x", seed, e, again, b)
		}
	}
	for _, e := range []api.Errno{api.OK, api.ErrShort, api.ErrForm, api.ErrSum, api.ErrRange} {
		if count[e] < 1000 {
			t.Errorf("only %d of the error %d", count[e], e)
		}
	}
}

// turn turns bits of b from a bit on, of a byte the lowest first; what stands
// behind the end is none.
func turn(b []byte, from int, bits uint32) []byte {
	out := bytes.Clone(b)
	for i := range 32 {
		if bits>>i&1 == 1 && from+i < 8*len(b) {
			out[(from+i)/8] ^= 1 << ((from + i) % 8)
		}
	}
	return out
}

// TestTurnedBits turns bits within 32 side by side, at each place.
func TestTurnedBits(t *testing.T) {
	d := dice(0)
	for _, f := range []diag.File{{}, of(diag.Diagram{Name: "f"}), small(), many(2)} {
		b := whole(sections(f))
		for from := range 8 * len(b) {
			for _, bits := range []uint32{1, 0xffffffff, 0x80000001, 0xff, d.Uint32() | 1, d.Uint32() | 1} {
				if g, e := bdf.Decode(turn(b, from, bits)); e == api.OK || len(g.Diagrams) != 0 {
					t.Fatalf("P13.3: the bits %x turned from %d on: %d, %+v", bits, from, e, g)
				}
			}
		}
	}
}

// ruin changes all of a file.
func ruin(f diag.File) {
	for i := range f.Diagrams {
		d := &f.Diagrams[i]
		for j := range d.Ins {
			d.Ins[j] = diag.Port{Name: "other", Type: 1 - d.Ins[j].Type}
		}
		for j := range d.Outs {
			d.Outs[j] = diag.Out{From: at(-9, 9)}
		}
		for j := range d.Blocks {
			b := &d.Blocks[j]
			for k := range b.From {
				b.From[k] = at(-9, 9)
			}
			*b = diag.Block{Kind: -9, X: -9}
		}
		*d = diag.Diagram{Name: "other"}
	}
}

func TestNothingIsShared(t *testing.T) {
	f := small()
	b, _ := bdf.Encode(f)
	kept := bytes.Clone(b)
	ruin(f)
	if !bytes.Equal(b, kept) {
		t.Error("R4: the bytes share with the file")
	}
	again, _ := bdf.Encode(small())
	clear(again)
	if !bytes.Equal(b, kept) {
		t.Error("R4: two answers share bytes")
	}
	x, _ := bdf.Decode(b)
	y, _ := bdf.Decode(b)
	clear(b)
	if !x.Same(small()) {
		t.Error("R4: the file shares with the bytes")
	}
	ruin(y)
	if !x.Same(small()) {
		t.Error("R4: two answers share something")
	}
}

// TestListsAreAlone puts something behind each list of an answer: no other
// list is changed by it.
func TestListsAreAlone(t *testing.T) {
	for _, want := range []diag.File{small(), many(5)} {
		f, _ := bdf.Decode(whole(sections(want)))
		for i := range f.Diagrams {
			d := &f.Diagrams[i]
			_ = append(d.Ins, diag.Port{Name: "behind"})
			_ = append(d.Outs, diag.Out{From: at(7, 7)})
			_ = append(d.Blocks, diag.Block{Kind: 7, X: 7})
			for j := range d.Blocks {
				_ = append(d.Blocks[j].From, at(7, 7), at(8, 8), at(9, 9))
			}
		}
		if !f.Same(want) {
			t.Error("R4: two lists of an answer share something")
		}
	}
}

// TestBehindLists asks of lists behind which there is room.
func TestBehindLists(t *testing.T) {
	f := small()
	d := &f.Diagrams[1]
	d.Blocks = append(d.Blocks, diag.Block{N: 7})[:len(d.Blocks)]
	d.Ins = append(d.Ins, diag.Port{Name: "x"})[:len(d.Ins)]
	d.Outs = append(d.Outs, diag.Out{Port: diag.Port{Name: "x"}})[:len(d.Outs)]
	d.Blocks[3].From = append(d.Blocks[3].From, at(0, 7))[:2]
	if b, e := bdf.Encode(f); e != api.OK || !bytes.Equal(b, whole(sections(small()))) {
		t.Errorf("P13.1: %d, %x", e, b)
	}
	if d.Blocks[:10][9].N != 7 || d.Ins[:3][2].Name != "x" || d.Outs[:3][2].Port.Name != "x" || d.Blocks[3].From[:3][2].Port != 7 {
		t.Error("R4: what stands behind a list is changed")
	}
	b := whole(sections(small()))
	more := append(bytes.Clone(b), "behind"...)
	if g, e := bdf.Decode(more[:len(b)]); e != api.OK || !g.Same(small()) || string(more[len(b):]) != "behind" {
		t.Errorf("P13.2: %d, %+v, %q", e, g, more[len(b):])
	}
}

func TestNilAndEmpty(t *testing.T) {
	f, o := small(), small()
	for i := range o.Diagrams {
		d := &o.Diagrams[i]
		d.Ins, d.Outs, d.Blocks = append([]diag.Port{}, d.Ins...), append([]diag.Out{}, d.Outs...), append([]diag.Block{}, d.Blocks...)
		for j := range d.Blocks {
			d.Blocks[j].From = append([]diag.Source{}, d.Blocks[j].From...)
		}
	}
	x, e := bdf.Encode(f)
	y, again := bdf.Encode(o)
	if e != again || !bytes.Equal(x, y) {
		t.Errorf("R3: %d, %d", e, again)
	}
	for _, b := range [][]byte{nil, {}} {
		wrong(t, "no bytes", b, api.ErrShort)
	}
}

// TestNothingIsKept asks for the same at first, and behind much else.
func TestNothingIsKept(t *testing.T) {
	first, _ := bdf.Encode(small())
	for seed := range uint64(300) {
		bdf.Encode(anyFile(seed))
		bdf.Decode(anyBytes(seed))
		if b, e := bdf.Encode(small()); e != api.OK || !bytes.Equal(b, first) {
			t.Fatalf("R6: %d, %x", e, b)
		}
		if f, e := bdf.Decode(first); e != api.OK || !f.Same(small()) {
			t.Fatalf("R6: %d, %+v", e, f)
		}
	}
}
