package wire_test

import (
	"bytes"
	"math"
	"math/rand/v2"
	"strconv"
	"strings"
	"testing"

	"shuttlecock/api"
	"shuttlecock/wire"
)

// The calls have the signatures of the document.
var (
	_ func([]byte, uint16) []byte       = wire.Put16
	_ func([]byte, uint32) []byte       = wire.Put32
	_ func([]byte, uint64) []byte       = wire.PutVar
	_ func([]byte, string) []byte       = wire.PutText
	_ func([]byte, byte, []byte) []byte = wire.PutSection
	_ func([]byte) uint32               = wire.Sum
	_ func([]byte) *wire.Reader         = wire.Read
	_ interface {
		Byte() byte
		U16() uint16
		U32() uint32
		Var(uint64) uint64
		Text(uint64) string
		Section(byte) *wire.Reader
		Fail(api.Errno)
		Left() int
		Err() api.Errno
		End() api.Errno
	} = (*wire.Reader)(nil)
)

// steps does calls one after the other, chosen by seed, on a reader and on
// those of its sections, and tells all that they answer.
func steps(b []byte, seed uint64) string {
	r := rand.New(rand.NewPCG(seed, 2))
	most := []uint64{0, 1, 127, 300, 1 << 32, math.MaxUint64}
	readers := []*wire.Reader{wire.Read(b)}
	var told strings.Builder
	tell := func(v uint64) { told.WriteString(strconv.FormatUint(v, 10) + " ") }
	for range 40 {
		x := readers[r.IntN(len(readers))]
		switch r.IntN(8) {
		case 0:
			tell(uint64(x.Byte()))
		case 1:
			tell(uint64(x.U16()))
		case 2:
			tell(uint64(x.U32()))
		case 3:
			tell(x.Var(most[r.IntN(len(most))]))
		case 4:
			told.WriteString(strconv.Quote(x.Text(most[r.IntN(len(most))])))
		case 5:
			readers = append(readers, x.Section(byte(r.IntN(3))))
		case 6:
			if r.IntN(10) == 0 {
				x.Fail(api.Errno(r.IntN(14)))
			}
		}
		tell(uint64(x.Left()))
		tell(uint64(x.Err()))
		tell(uint64(x.End()))
		if x.Err() != api.OK && x.Left() != 0 {
			told.WriteString("left by one that gave up")
		}
	}
	return told.String()
}

func TestWhateverComes(t *testing.T) {
	for seed := range uint64(3000) {
		b := noise(int(seed%97), seed)
		for i := range b { // so that lengths are met now and then
			if seed%2 == 0 {
				b[i] %= 4
			}
		}
		if seed%3 == 0 {
			b = wire.PutSection(wire.PutSection(nil, 1, b), 1, b)
		}
		kept := bytes.Clone(b)
		told := steps(b, seed)
		if strings.Contains(told, "left by") {
			t.Errorf("P1.2: %x", b)
		}
		if !bytes.Equal(b, kept) {
			t.Errorf("R4: a reader changes its bytes: %x", kept)
		}
		if steps(b, seed) != told {
			t.Errorf("R6: %x is read twice, and not likewise", b)
		}
	}
}

func TestNilAndEmpty(t *testing.T) {
	if wire.Sum(nil) != wire.Sum([]byte{}) {
		t.Error("R3: Sum")
	}
	if !bytes.Equal(wire.PutSection(nil, 1, nil), wire.PutSection([]byte{}, 1, []byte{})) {
		t.Error("R3: PutSection")
	}
	for _, b := range [][]byte{nil, {}} {
		r := wire.Read(b)
		if r.Left() != 0 || r.Err() != api.OK || r.End() != api.OK {
			t.Error("R3: Read")
		}
		r.Byte()
		gaveUp(t, "R3: Read", r, api.ErrShort)
	}
}

func TestHandedInIsNotKept(t *testing.T) {
	b := wire.PutSection([]byte("\x02ab\x07"), 1, []byte("in"))
	r := wire.Read(b)
	clear(b)
	if r.Text(2) != "ab" || r.Byte() != 7 {
		t.Error("R4: a reader's bytes change with those that were handed in")
	}
	in := r.Section(1)
	if in.U16() != 0x6e69 || in.End() != api.OK || r.End() != api.OK {
		t.Error("R4: a section's bytes change with those that were handed in")
	}
}

func TestHandedInIsNotChanged(t *testing.T) {
	in := make([]byte, 4, 64)
	copy(in, "abcd")
	room := in[:64]
	b := wire.PutSection(nil, 1, in)
	if wire.Sum(in) != wire.Sum([]byte("abcd")) || string(in) != "abcd" || !bytes.Equal(room[4:], make([]byte, 60)) {
		t.Error("R4: PutSection, or Sum, changes what is handed in")
	}
	clear(in)
	if string(b[5:9]) != "abcd" {
		t.Error("R4: PutSection shares memory with what is handed in")
	}
}

func TestReadersAreAlone(t *testing.T) {
	b := []byte("abc")
	x, y := wire.Read(b), wire.Read(b)
	x.Fail(api.ErrSum)
	if y.Err() != api.OK || y.Left() != 3 || y.Byte() != 'a' {
		t.Error("R6: a reader hangs on another one")
	}
}
