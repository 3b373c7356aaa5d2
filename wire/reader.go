package wire

import (
	"bytes"

	"shuttlecock/api"
)

const (
	more         = 128       // what a byte of a number by sevens has, if another one follows
	mostDigits   = 10        // as many digits as a number below 2^64 can have
	mostTenth    = 1         // and as much as is left of 64 bits for the tenth of them
	sectionFrame = 1 + 4 + 4 // a section's bytes beside those in it
)

// Reader goes through bytes from the front, till it gives up.
type Reader struct {
	rest []byte
	err  api.Errno
}

// Read makes a reader. It has bytes of its own, so that it reads what stood
// there, whatever becomes of b.
func Read(b []byte) *Reader {
	return &Reader{rest: bytes.Clone(b)}
}

// Byte is the next byte.
func (r *Reader) Byte() byte {
	return byte(r.number(1))
}

// U16 is the next number of 16 bits.
func (r *Reader) U16() uint16 {
	return uint16(r.number(2))
}

// U32 is the next number of 32 bits.
func (r *Reader) U32() uint32 {
	return r.number(4)
}

// Var is the next number by sevens. A byte that lacks ends the number as a
// digit 0 would: what is asked then comes too late to count.
func (r *Reader) Var(most uint64) uint64 {
	v, digit, n := uint64(0), byte(more), 0
	for ; digit >= more && n < mostDigits; n++ {
		digit = r.Byte()
		v |= uint64(digit%more) << (7 * n)
	}
	switch {
	case n > 1 && digit == 0, n == mostDigits && digit > mostTenth:
		r.Fail(api.ErrForm)
	case v > most:
		r.Fail(api.ErrRange)
	}
	if r.err != api.OK {
		return 0
	}
	return v
}

// Text is the next run of bytes.
func (r *Reader) Text(most uint64) string {
	return string(r.take(r.Var(most)))
}

// Section is a reader of the next section's bytes. Only the first thing that
// is wrong counts with Fail, so all that follows it may be asked as well.
func (r *Reader) Section(id byte) *Reader {
	if r.Byte() != id {
		r.Fail(api.ErrForm)
	}
	in := r.take(uint64(r.U32()))
	if r.U32() != Sum(in) {
		r.Fail(api.ErrSum)
	}
	section := Read(in)
	section.Fail(r.err)
	return section
}

// Fail gives up, for good; only the first error counts.
func (r *Reader) Fail(e api.Errno) {
	if r.err == api.OK && e != api.OK {
		r.rest, r.err = nil, e
	}
}

// Left is how many bytes are left.
func (r *Reader) Left() int {
	return len(r.rest)
}

// Err is with what it gave up, or OK.
func (r *Reader) Err() api.Errno {
	return r.err
}

// End is with what it gave up, or ErrForm, if something is left. It only
// asks: what is left can still be read.
func (r *Reader) End() api.Errno {
	if r.Left() > 0 {
		return api.ErrForm
	}
	return r.err
}

// number is the number of the next n bytes, 4 at most, the lowest first.
func (r *Reader) number(n uint64) uint32 {
	v := uint32(0)
	for i, c := range r.take(n) {
		v |= uint32(c) << (8 * i)
	}
	return v
}

// take takes the next n bytes. They are the reader's own: they are copied
// ahead of being handed out.
func (r *Reader) take(n uint64) []byte {
	if n > uint64(len(r.rest)) {
		r.Fail(api.ErrShort)
		return nil
	}
	taken := r.rest[:n]
	r.rest = r.rest[n:]
	return taken
}
