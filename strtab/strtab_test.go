package strtab_test

import (
	"math"
	"strconv"
	"strings"
	"testing"

	"shuttlecock/api"
	"shuttlecock/strtab"
	"shuttlecock/wire"
)

// The calls have the signatures of the document.
var (
	_ func() *strtab.Table             = strtab.New
	_ func(*wire.Reader) *strtab.Table = strtab.Read
	_ interface {
		Add(string) (int, api.Errno)
		Get(int) (string, bool)
		Find(string) (int, bool)
		Len() int
		Put([]byte) []byte
	} = (*strtab.Table)(nil)
)

// has tells whether a table has these texts, and no others, by all its calls.
func has(t *testing.T, what string, x *strtab.Table, texts ...string) {
	t.Helper()
	if x.Len() != len(texts) {
		t.Errorf("%s: Len %d, not %d", what, x.Len(), len(texts))
	}
	for i, want := range texts {
		if s, is := x.Get(i); s != want || !is {
			t.Errorf("%s: Get(%d): %.40q, %t, not %.40q", what, i, s, is, want)
		}
		if n, is := x.Find(want); n != i || !is {
			t.Errorf("%s: Find(%.40q): %d, %t, not %d", what, want, n, is, i)
		}
	}
	for _, i := range []int{-1, math.MinInt, len(texts), len(texts) + 1, math.MaxInt} {
		if s, is := x.Get(i); s != "" || is {
			t.Errorf("%s: Get(%d): %.40q, %t", what, i, s, is)
		}
	}
	for _, s := range []string{"not there", strings.Repeat("n", 65536)} {
		if n, is := x.Find(s); n != 0 || is {
			t.Errorf("%s: Find(%.40q): %d, %t", what, s, n, is)
		}
	}
	want := wire.PutVar([]byte("ahead"), uint64(len(texts)))
	for _, s := range texts {
		want = wire.PutText(want, s)
	}
	if got := x.Put([]byte("ahead")); string(got) != string(want) {
		t.Errorf("%s: Put: %.80x, not %.80x", what, got, want)
	}
}

// added adds a text, and tells whether it has that number then.
func added(t *testing.T, x *strtab.Table, s string, want int) {
	t.Helper()
	if n, e := x.Add(s); n != want || e != api.OK {
		t.Errorf("P2.1: Add(%.40q): %d, %d, not %d", s, n, e, want)
	}
}

func TestNew(t *testing.T) {
	has(t, "P2.1: New", strtab.New())
	if b := strtab.New().Put(nil); string(b) != "\x00" {
		t.Errorf("P2.2: the bytes of no texts: %x", b)
	}
}

func TestAdd(t *testing.T) {
	x := strtab.New()
	for i, s := range []string{"a", "b", "a", "", "\x00\xff", "b", "", "A"} {
		added(t, x, s, []int{0, 1, 0, 2, 3, 1, 2, 4}[i])
	}
	has(t, "P2.1: Add", x, "a", "b", "", "\x00\xff", "A")
	has(t, "R6: another table", strtab.New())
}

func TestAddLong(t *testing.T) {
	longest := strings.Repeat("l", 65535)
	x := strtab.New()
	added(t, x, "a", 0)
	for range 2 {
		added(t, x, longest, 1)
		for _, s := range []string{longest + "l", strings.Repeat("l", 70000)} {
			if n, e := x.Add(s); n != 0 || e != api.ErrRange {
				t.Errorf("P2.1: Add of %d bytes: %d, %d", len(s), n, e)
			}
			if n, is := x.Find(s); n != 0 || is {
				t.Errorf("P2.1: Find of %d bytes: %d, %t", len(s), n, is)
			}
		}
		has(t, "R2: behind a text that is too long", x, "a", longest)
	}
	added(t, x, "b", 2)
}

func TestNumbersStay(t *testing.T) {
	x := strtab.New()
	var texts []string
	for i := range 3000 {
		s := strconv.Itoa(i * 7919 % 3001)
		texts = append(texts, s)
		added(t, x, s, i)
		added(t, x, texts[i/2], i/2)
	}
	has(t, "P2.3: many texts", x, texts...)
	r := wire.Read(x.Put(nil))
	has(t, "P2.3: many texts, read", strtab.Read(r), texts...)
	if r.End() != api.OK {
		t.Errorf("P2.3: many texts, read: %d", r.End())
	}
}

func TestPut(t *testing.T) {
	x := strtab.New()
	for _, s := range []string{"a", "b", "a"} {
		x.Add(s)
	}
	for range 2 { // to be put changes nothing
		if b := x.Put(nil); string(b) != "\x02\x01a\x01b" {
			t.Errorf("P2.2: %x", b)
		}
		if b := x.Put(make([]byte, 2, 50)); string(b) != "\x00\x00\x02\x01a\x01b" {
			t.Errorf("P2.2: behind others: %x", b)
		}
	}
}

func TestRead(t *testing.T) {
	longest := strings.Repeat("l", 65535)
	for _, texts := range [][]string{nil, {""}, {"a", "b"}, {"b", "", "a", "\x00"}, {"", longest, "x"}, {longest}} {
		b := wire.PutVar(nil, uint64(len(texts)))
		for _, s := range texts {
			b = wire.PutText(b, s)
		}
		r := wire.Read(append(b, "behind"...))
		has(t, "P2.2: Read", strtab.Read(r), texts...)
		if r.Err() != api.OK || r.Left() != 6 || r.Byte() != 'b' {
			t.Errorf("P2.2: behind a table of %d texts: %d, %d left", len(texts), r.Err(), r.Left())
		}
	}
	x := strtab.Read(wire.Read([]byte("\x02\x01a\x01b")))
	added(t, x, "b", 1)
	added(t, x, "c", 2)
	has(t, "P2.3: a table that was read goes on", x, "a", "b", "c")
}

func TestReadWrong(t *testing.T) {
	long := string(wire.PutVar(nil, 65536)) + strings.Repeat("l", 65536)
	for _, c := range []struct {
		name, b string
		want    api.Errno
	}{
		{"nothing", "", api.ErrShort},
		{"the count's second byte lacks", "\x80", api.ErrShort},
		{"a count in two bytes that needs one", "\x81\x00\x01a", api.ErrForm},
		{"a count not below 2^64", "\xff\xff\xff\xff\xff\xff\xff\xff\xff\x02", api.ErrForm},
		{"2^24 texts", "\x80\x80\x80\x08\x01a", api.ErrRange},
		{"2^24 texts, and none there", "\x80\x80\x80\x08", api.ErrRange},
		{"2^64 - 1 texts", "\xff\xff\xff\xff\xff\xff\xff\xff\xff\x01", api.ErrRange},
		{"2^24 - 1 texts, and none there", "\xff\xff\xff\x07", api.ErrShort},
		{"2^24 - 1 texts, and one there", "\xff\xff\xff\x07\x01a", api.ErrShort},
		{"a text lacks", "\x02\x01a", api.ErrShort},
		{"a text's length lacks within it", "\x01\x80", api.ErrShort},
		{"a byte of a text lacks", "\x02\x01a\x02b", api.ErrShort},
		{"a length in two bytes that needs one", "\x01\x81\x00a", api.ErrForm},
		{"a text of 65536 bytes", "\x01" + long, api.ErrRange},
		{"a second text of 65536 bytes", "\x02\x01a" + long, api.ErrRange},
		{"a text of 65536 bytes that lack", "\x01\x80\x80\x04", api.ErrRange},
		{"a text of 65535 bytes that lack", "\x01\xff\xff\x03a", api.ErrShort},
		{"a text a second time", "\x02\x01a\x01a", api.ErrForm},
		{"a text a second time, further on", "\x03\x01a\x01b\x01a", api.ErrForm},
		{"an empty text a second time", "\x02\x00\x00", api.ErrForm},
		{"an empty text, and then bytes lack", "\x02\x00", api.ErrShort},
		{"an empty text, and then a long one", "\x02\x00\x80\x80\x04", api.ErrRange},
		{"a text a second time, ahead of one that lacks", "\x03\x01a\x01a\x05", api.ErrForm},
		{"a text that is too long, ahead of one a second time", "\x04\x01a\x80\x80\x04\x01a", api.ErrRange},
	} {
		r := wire.Read([]byte(c.b))
		x := strtab.Read(r)
		has(t, "P2.2: "+c.name, x)
		if r.Err() != c.want || r.Left() != 0 {
			t.Errorf("P2.2: %s: %d, %d left, not %d", c.name, r.Err(), r.Left(), c.want)
		}
		added(t, x, "b", 0)
		has(t, "P2.2: "+c.name+", and a text", x, "b")
	}
}

func TestReadOfOneThatGaveUp(t *testing.T) {
	for _, e := range []api.Errno{api.ErrSum, api.ErrName, -7, 99} {
		r := wire.Read([]byte("\x01\x01a"))
		r.Fail(e)
		has(t, "P2.2: Read of a reader that gave up", strtab.Read(r))
		if r.Err() != e {
			t.Errorf("P2.2: Read of a reader that gave up: %d, not %d", r.Err(), e)
		}
	}
}

func TestReadInSection(t *testing.T) {
	b := wire.PutSection(nil, 1, []byte("\x01\x01a"))
	r := wire.Read(append(b, "\x01\x01c"...))
	in := r.Section(1)
	has(t, "P2.2: Read of a section", strtab.Read(in), "a")
	has(t, "P2.2: Read behind a section", strtab.Read(r), "c")
	if in.End() != api.OK || r.End() != api.OK {
		t.Error("P2.2: Read of a section leaves something")
	}
}

func TestHandedInIsNotKept(t *testing.T) {
	b := []byte("\x02\x01a\x01b")
	r := wire.Read(b)
	x := strtab.Read(r)
	clear(b)
	has(t, "R4: the bytes of a table change", x, "a", "b")
	y := strtab.Read(wire.Read(x.Put(nil)))
	added(t, y, "c", 2)
	has(t, "R4: a table's bytes are read and added to", x, "a", "b")
	out := x.Put(nil)
	clear(out)
	has(t, "R4: the bytes that were put change", x, "a", "b")
}

func TestWhateverComes(t *testing.T) {
	for seed := range 20000 {
		b := make([]byte, seed%9)
		for i, v := 0, seed*2654435761; i < len(b); i, v = i+1, v/7 {
			b[i] = byte(v % 5)
			if v%11 == 0 {
				b[i] |= 128
			}
		}
		r, again := wire.Read(b), wire.Read(b)
		x, y := strtab.Read(r), strtab.Read(again)
		if r.Err() != again.Err() || string(x.Put(nil)) != string(y.Put(nil)) {
			t.Fatalf("R6: %x is read twice, and not likewise", b)
		}
		if r.Err() != api.OK && x.Len() != 0 {
			t.Fatalf("P2.2: %x: %d, and texts", b, r.Err())
		}
		if r.Err() == api.OK && string(x.Put(nil)) != string(b[:len(b)-r.Left()]) {
			t.Fatalf("P2.3: %x is read, and put otherwise", b)
		}
	}
}
