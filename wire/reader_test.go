package wire_test

import (
	"bytes"
	"math"
	"strings"
	"testing"

	"shuttlecock/api"
	"shuttlecock/wire"
)

// gaveUp tells whether a reader gave up with e, and answers nothing from then on.
func gaveUp(t *testing.T, what string, r *wire.Reader, e api.Errno) {
	t.Helper()
	for range 2 {
		if r.Err() != e || r.End() != e || r.Left() != 0 {
			t.Errorf("%s: Err %d, End %d, Left %d, not %d and nothing left", what, r.Err(), r.End(), r.Left(), e)
		}
		if r.Byte() != 0 || r.U16() != 0 || r.U32() != 0 || r.Var(math.MaxUint64) != 0 || r.Text(math.MaxUint64) != "" {
			t.Errorf("%s: something is answered by a reader that gave up", what)
		}
		for _, id := range []byte{0, 1, 9} {
			in := r.Section(id)
			if in.Err() != e || in.End() != e || in.Left() != 0 || in.Byte() != 0 || in.Err() != e {
				t.Errorf("%s: Section of a reader that gave up: %d", what, in.Err())
			}
		}
		r.Fail(api.ErrState)
		r.Fail(api.OK)
	}
}

func TestReadFixed(t *testing.T) {
	r := wire.Read([]byte("\x07\x34\x12\x78\x56\x34\x12\xff\xff\xff\xff\xff\xff\xff"))
	if v := r.Byte(); v != 7 {
		t.Errorf("P1.2: Byte: %d", v)
	}
	if v := r.U16(); v != 0x1234 {
		t.Errorf("P1.2: U16: %x", v)
	}
	if v := r.U32(); v != 0x12345678 {
		t.Errorf("P1.2: U32: %x", v)
	}
	if r.Byte() != 255 || r.U16() != 65535 || r.U32() != math.MaxUint32 || r.End() != api.OK {
		t.Error("P1.2: the greatest ones")
	}
}

func TestReadVar(t *testing.T) {
	for _, c := range sevens {
		r := wire.Read([]byte(c.want + "z"))
		if v := r.Var(c.v); v != c.v || r.Err() != api.OK || r.Left() != 1 {
			t.Errorf("P1.2: Var of %x: %d, %d", c.want, v, r.Err())
		}
		if c.v > 0 {
			r = wire.Read([]byte(c.want + "z"))
			if v := r.Var(c.v - 1); v != 0 {
				t.Errorf("P1.2: Var above most: %d", v)
			}
			gaveUp(t, "P1.2: above most", r, api.ErrRange)
		}
	}
}

func TestReadVarWrong(t *testing.T) {
	nine := strings.Repeat("\x80", 9)
	ones := strings.Repeat("\xff", 9)
	for _, c := range []struct {
		b    string
		most uint64
		want api.Errno
	}{
		{"", math.MaxUint64, api.ErrShort},
		{"\x80", math.MaxUint64, api.ErrShort},
		{"\x80", 0, api.ErrShort},
		{"\x80\x80", math.MaxUint64, api.ErrShort},
		{nine, math.MaxUint64, api.ErrShort},
		{ones, 0, api.ErrShort},
		{"\x80\x00", math.MaxUint64, api.ErrForm},
		{"\xff\x00", math.MaxUint64, api.ErrForm},
		{"\xff\x00", 0, api.ErrForm},
		{"\x80\x80\x00", math.MaxUint64, api.ErrForm},
		{nine + "\x00", math.MaxUint64, api.ErrForm},
		{nine + "\x02", math.MaxUint64, api.ErrForm},
		{ones + "\x02", math.MaxUint64, api.ErrForm},
		{ones + "\x02", 0, api.ErrForm},
		{ones + "\x7f", math.MaxUint64, api.ErrForm},
		{nine + "\x80", math.MaxUint64, api.ErrForm},
		{nine + "\x80\x01", math.MaxUint64, api.ErrForm},
		{ones + "\xff", 0, api.ErrForm},
		{ones + "\xff\x01", math.MaxUint64, api.ErrForm},
		{"\x01", 0, api.ErrRange},
		{"\x80\x01", 127, api.ErrRange},
		{ones + "\x01", math.MaxUint64 - 1, api.ErrRange},
	} {
		r := wire.Read([]byte(c.b))
		if v := r.Var(c.most); v != 0 {
			t.Errorf("P1.2: Var(%d) of %x: %d", c.most, c.b, v)
		}
		gaveUp(t, "P1.2: a wrong number by sevens", r, c.want)
	}
}

func TestReadText(t *testing.T) {
	long := strings.Repeat("y", 200)
	for _, c := range []struct {
		b    string
		most uint64
		want string
		e    api.Errno
	}{
		{"\x00", 0, "", api.OK},
		{"\x02ab", 2, "ab", api.OK},
		{"\x02ab", math.MaxUint64, "ab", api.OK},
		{"\xc8\x01" + long, 200, long, api.OK},
		{"\x02ab", 1, "", api.ErrRange},
		{"\x02", 1, "", api.ErrRange},
		{"\x02a", 2, "", api.ErrShort},
		{"\x02", math.MaxUint64, "", api.ErrShort},
		{"", math.MaxUint64, "", api.ErrShort},
		{"\x82", math.MaxUint64, "", api.ErrShort},
		{"\x81\x00a", math.MaxUint64, "", api.ErrForm},
		{"\xff\xff\xff\xff\xff\xff\xff\xff\xff\x01a", math.MaxUint64, "", api.ErrShort},
		{"\x80\x80\x80\x80\x80\x80\x80\x80\x80\x01a", math.MaxUint64, "", api.ErrShort},
		{"\xff\xff\xff\xff\xff\xff\xff\xff\xff\x02a", math.MaxUint64, "", api.ErrForm},
	} {
		r := wire.Read([]byte(c.b))
		if s := r.Text(c.most); s != c.want || r.Err() != c.e || r.End() != c.e {
			t.Errorf("P1.2: Text(%d) of %x: %q, %d, not %q, %d", c.most, c.b, s, r.Err(), c.want, c.e)
		}
		if c.e != api.OK {
			gaveUp(t, "P1.2: a wrong run of bytes", r, c.e)
		}
	}
}

func TestBytesLack(t *testing.T) {
	for _, c := range []struct {
		name string
		b    string
		read func(r *wire.Reader) bool // whether nothing is answered
	}{
		{"Byte", "\x01", func(r *wire.Reader) bool { return r.Byte() == 0 }},
		{"U16", "\x01\x01", func(r *wire.Reader) bool { return r.U16() == 0 }},
		{"U32", "\x01\x01\x01\x01", func(r *wire.Reader) bool { return r.U32() == 0 }},
		{"Var", "\xff\xff\xff\xff\xff\xff\xff\xff\xff\x01", func(r *wire.Reader) bool { return r.Var(math.MaxUint64) == 0 }},
		{"Text", "\x83\x01" + strings.Repeat("a", 131), func(r *wire.Reader) bool { return r.Text(131) == "" }},
		{"Section", string(wire.PutSection(nil, 0, []byte("abc"))), func(r *wire.Reader) bool {
			in := r.Section(0)
			return in.Left() == 0 && in.Err() == api.ErrShort
		}},
	} {
		for n := range len(c.b) {
			r := wire.Read([]byte(c.b[:n]))
			if !c.read(r) {
				t.Errorf("P1.2: %s of %d bytes answers something", c.name, n)
			}
			gaveUp(t, "P1.2: "+c.name, r, api.ErrShort)
		}
		r := wire.Read([]byte(c.b))
		if c.read(r) || r.End() != api.OK {
			t.Errorf("P1.2: %s of all bytes: %d", c.name, r.End())
		}
	}
}

func TestSection(t *testing.T) {
	b := wire.PutSection(nil, 1, wire.PutSection([]byte("x"), 2, []byte("inner")))
	b = wire.PutSection(b, 0, nil)
	r := wire.Read(append(b, 'z'))
	first := r.Section(1)
	second := r.Section(0)
	if r.Err() != api.OK || r.Left() != 1 || r.Byte() != 'z' || r.End() != api.OK {
		t.Error("P1.2: behind two sections")
	}
	if second.Left() != 0 || second.End() != api.OK {
		t.Error("P1.2: a section of no bytes")
	}
	if first.Left() != 15 || first.Byte() != 'x' {
		t.Error("P1.2: the first section's bytes")
	}
	inner := first.Section(2)
	if inner.Left() != 5 || inner.U32() != 0x656e6e69 || inner.Byte() != 'r' || inner.End() != api.OK || first.End() != api.OK {
		t.Error("P1.2: a section in a section")
	}
}

func TestSectionsGiveUpAlone(t *testing.T) {
	r := wire.Read(append(wire.PutSection(nil, 1, []byte("in")), "out"...))
	in := r.Section(1)
	in.Fail(api.ErrDeep)
	gaveUp(t, "P1.3: a section's reader", in, api.ErrDeep)
	if r.Err() != api.OK || r.Left() != 3 || r.Byte() != 'o' {
		t.Error("P1.2: the reader around a section's that gave up")
	}
	r = wire.Read(wire.PutSection(nil, 1, []byte("in")))
	in = r.Section(1)
	r.Fail(api.ErrDeep)
	if in.Err() != api.OK || in.Left() != 2 || in.Byte() != 'i' {
		t.Error("P1.2: a section's reader, when that around it gave up")
	}
}

func TestSectionWrong(t *testing.T) {
	good := string(wire.PutSection(nil, 1, []byte("abc")))
	for _, c := range []struct {
		name, b string
		id      byte
		want    api.Errno
	}{
		{"without a number", "", 1, api.ErrShort},
		{"without a number, of 0", "", 0, api.ErrShort},
		{"another number", good, 2, api.ErrForm},
		{"another number, without a length", "\x01", 2, api.ErrForm},
		{"another number, of 0", good, 0, api.ErrForm},
		{"another number and sum", good[:5] + "abd" + good[8:], 2, api.ErrForm},
		{"a length's byte lacks", good[:4], 1, api.ErrShort},
		{"a byte lacks", good[:7], 1, api.ErrShort},
		{"the sum lacks", good[:8], 1, api.ErrShort},
		{"a sum's byte lacks", good[:11], 1, api.ErrShort},
		{"a sum's byte lacks of other bytes", good[:5] + "abd" + good[8:11], 1, api.ErrShort},
		{"other bytes", good[:5] + "abd" + good[8:], 1, api.ErrSum},
		{"another sum", good[:11] + "\x00", 1, api.ErrSum},
		{"the greatest length", "\x01\xff\xff\xff\xffabc", 1, api.ErrShort},
		{"a length one less", "\x01\x02" + good[2:], 1, api.ErrSum},
		{"a length one more", "\x01\x04" + good[2:], 1, api.ErrShort},
	} {
		r := wire.Read([]byte(c.b))
		in := r.Section(c.id)
		gaveUp(t, "P1.2: a section, "+c.name+", in it", in, c.want)
		gaveUp(t, "P1.2: a section, "+c.name, r, c.want)
	}
}

func TestSectionTurnedBits(t *testing.T) {
	b := wire.PutSection(nil, 5, noise(20, 9))
	for from := 40; from < 8*len(b)-31; from++ { // behind the number and the length
		for _, bits := range []uint32{1, 0xffffffff, 0x80000001, 0x00010101} {
			r := wire.Read(turn(b, from, bits))
			if in := r.Section(5); in.Err() != api.ErrSum || r.Err() != api.ErrSum || in.Left() != 0 {
				t.Fatalf("P1.4: a section with the bits %x turned from %d on: %d", bits, from, in.Err())
			}
		}
	}
}

func TestFail(t *testing.T) {
	r := wire.Read([]byte("abc"))
	r.Fail(api.OK)
	if r.Err() != api.OK || r.Left() != 3 || r.Byte() != 'a' {
		t.Error("P1.3: Fail with OK changes something")
	}
	r.Fail(api.ErrName)
	gaveUp(t, "P1.3: Fail", r, api.ErrName)
	for _, e := range []api.Errno{1, 12, 13, -1, math.MaxInt, math.MinInt} { // R5: numbers as they come
		r := wire.Read([]byte("abc"))
		r.Fail(e)
		r.Fail(api.ErrShort)
		gaveUp(t, "P1.3: Fail with any number", r, e)
	}
	r = wire.Read([]byte("a"))
	r.U16()
	r.Fail(api.ErrName)
	gaveUp(t, "P1.3: Fail of a reader that gave up", r, api.ErrShort)
}

func TestLeftErrEnd(t *testing.T) {
	r := wire.Read([]byte("\x01\x02\x03"))
	for left := 3; left > 0; left-- {
		for range 2 { // to be asked changes nothing
			if r.Left() != left || r.Err() != api.OK || r.End() != api.ErrForm {
				t.Errorf("P1.3: with %d left: %d, %d, %d", left, r.Left(), r.Err(), r.End())
			}
		}
		if v := r.Byte(); int(v) != 4-left {
			t.Errorf("P1.3: behind End: %d", v)
		}
	}
	if r.Left() != 0 || r.Err() != api.OK || r.End() != api.OK {
		t.Error("P1.3: at the end")
	}
	r.Byte()
	gaveUp(t, "P1.3: behind the end", r, api.ErrShort)
}

func TestPutIsRead(t *testing.T) {
	var numbers []uint64
	for i := range 64 {
		numbers = append(numbers, 1<<i-1, 1<<i, 1<<i+1)
	}
	numbers = append(numbers, math.MaxUint64-1, math.MaxUint64)
	var b []byte
	for i, v := range numbers {
		b = wire.PutVar(b, v)
		b = wire.Put16(b, uint16(v))
		b = wire.Put32(b, uint32(v))
		b = wire.PutText(b, string(noise(i, v)))
		b = wire.PutSection(b, byte(v), noise(i, v))
	}
	r := wire.Read(b)
	for i, v := range numbers {
		if r.Var(v) != v || r.U16() != uint16(v) || r.U32() != uint32(v) {
			t.Errorf("P1.4: the numbers of %d", v)
		}
		if r.Text(uint64(i)) != string(noise(i, v)) {
			t.Errorf("P1.4: the text of %d bytes", i)
		}
		in := r.Section(byte(v))
		for _, want := range noise(i, v) {
			if in.Byte() != want {
				t.Fatalf("P1.4: the section of %d bytes", i)
			}
		}
		if in.End() != api.OK {
			t.Errorf("P1.4: the section of %d bytes: %d", i, in.End())
		}
	}
	if r.End() != api.OK {
		t.Errorf("P1.4: at the end: %d", r.End())
	}
}

func TestOneWayAsBytes(t *testing.T) {
	for first := range 256 {
		for second := range 256 {
			b := []byte{byte(first), byte(second)}
			r := wire.Read(b)
			v := r.Var(math.MaxUint64)
			if r.Err() == api.OK && !bytes.Equal(wire.PutVar(nil, v), b[:2-r.Left()]) {
				t.Errorf("P1.4: %x is a number by sevens, %d, and is put otherwise", b, v)
			}
		}
	}
}
