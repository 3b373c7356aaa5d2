package wire_test

import (
	"bytes"
	"math"
	"strings"
	"testing"

	"shuttlecock/wire"
)

// sevens are numbers, and what the document says that they are by sevens.
var sevens = []struct {
	v    uint64
	want string
}{
	{0, "\x00"},
	{1, "\x01"},
	{127, "\x7f"},
	{128, "\x80\x01"},
	{300, "\xac\x02"},
	{16383, "\xff\x7f"},
	{16384, "\x80\x80\x01"},
	{1 << 32, "\x80\x80\x80\x80\x10"},
	{1<<63 - 1, "\xff\xff\xff\xff\xff\xff\xff\xff\x7f"},
	{1 << 63, "\x80\x80\x80\x80\x80\x80\x80\x80\x80\x01"},
	{math.MaxUint64, "\xff\xff\xff\xff\xff\xff\xff\xff\xff\x01"},
}

func TestPutVar(t *testing.T) {
	for _, c := range sevens {
		if b := wire.PutVar(nil, c.v); string(b) != c.want {
			t.Errorf("P1.1: PutVar %d: %x, not %x", c.v, b, c.want)
		}
	}
}

func TestPutFixed(t *testing.T) {
	for v, want := range map[uint16]string{0: "\x00\x00", 1: "\x01\x00", 0x1234: "\x34\x12", 65535: "\xff\xff"} {
		if b := wire.Put16(nil, v); string(b) != want {
			t.Errorf("P1.1: Put16 %d: %x", v, b)
		}
	}
	for v, want := range map[uint32]string{0: "\x00\x00\x00\x00", 1: "\x01\x00\x00\x00", 0x12345678: "\x78\x56\x34\x12", math.MaxUint32: "\xff\xff\xff\xff"} {
		if b := wire.Put32(nil, v); string(b) != want {
			t.Errorf("P1.1: Put32 %d: %x", v, b)
		}
	}
}

func TestPutText(t *testing.T) {
	long := strings.Repeat("x", 300)
	for s, want := range map[string]string{"": "\x00", "ab": "\x02ab", "\x00\xff\n": "\x03\x00\xff\n", long: "\xac\x02" + long} {
		if b := wire.PutText(nil, s); string(b) != want {
			t.Errorf("P1.1: PutText %q: %x", s, b)
		}
	}
}

func TestPutSection(t *testing.T) {
	for _, c := range []struct {
		id       byte
		in, want string
	}{
		{0, "", "\x00\x00\x00\x00\x00\x00\x00\x00\x00"},
		{255, "", "\xff\x00\x00\x00\x00\x00\x00\x00\x00"},
		{7, "123456789", "\x07\x09\x00\x00\x00123456789\x26\x39\xf4\xcb"},
	} {
		if b := wire.PutSection(nil, c.id, []byte(c.in)); string(b) != c.want {
			t.Errorf("P1.1: PutSection %d %q: %x", c.id, c.in, b)
		}
	}
	in := bytes.Repeat([]byte{5}, 70000)
	b := wire.PutSection(nil, 1, in)
	if len(b) != 70009 || string(b[:5]) != "\x01\x70\x11\x01\x00" || !bytes.Equal(b[5:70005], in) {
		t.Error("P1.1: PutSection of 70000 bytes")
	}
}

// puts are all calls that put something, and what they put.
var puts = []struct {
	name string
	put  func(b []byte) []byte
	want string
}{
	{"Put16", func(b []byte) []byte { return wire.Put16(b, 258) }, "\x02\x01"},
	{"Put32", func(b []byte) []byte { return wire.Put32(b, 258) }, "\x02\x01\x00\x00"},
	{"PutVar", func(b []byte) []byte { return wire.PutVar(b, 300) }, "\xac\x02"},
	{"PutText", func(b []byte) []byte { return wire.PutText(b, "ab") }, "\x02ab"},
	{"PutSection", func(b []byte) []byte { return wire.PutSection(b, 3, nil) }, "\x03\x00\x00\x00\x00\x00\x00\x00\x00"},
}

func TestPutGoesBehind(t *testing.T) {
	for _, p := range puts {
		for _, b := range [][]byte{nil, {}, []byte("front"), make([]byte, 3, 64)} {
			ahead := string(b)
			if got := p.put(b); string(got) != ahead+p.want {
				t.Errorf("P1.1: %s behind %q: %x", p.name, ahead, got)
			}
		}
	}
}
