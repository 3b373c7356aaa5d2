// Package wire is layer 1: numbers, sums and sections as bytes, and a reader
// of these (shared/doc/01-wire.md).
package wire

// Put16 puts a number of 16 bits, the lowest byte first.
func Put16(b []byte, v uint16) []byte {
	return append(b, byte(v), byte(v>>8))
}

// Put32 puts a number of 32 bits, the lowest byte first.
func Put32(b []byte, v uint32) []byte {
	return append(b, byte(v), byte(v>>8), byte(v>>16), byte(v>>24))
}

// PutVar puts a number by sevens, in as few bytes as may be.
func PutVar(b []byte, v uint64) []byte {
	for v >= more {
		b = append(b, byte(v)|more)
		v >>= 7
	}
	return append(b, byte(v))
}

// PutText puts a run of bytes.
func PutText(b []byte, s string) []byte {
	return append(PutVar(b, uint64(len(s))), s...)
}

// PutSection puts a section. It is put together aside, so that it is right
// also if in stands where b goes on.
func PutSection(b []byte, id byte, in []byte) []byte {
	section := make([]byte, 0, sectionFrame+len(in))
	section = append(section, id)
	section = Put32(section, uint32(len(in)))
	section = append(section, in...)
	section = Put32(section, Sum(in))
	return append(b, section...)
}
