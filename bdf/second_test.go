package bdf_test

import (
	"encoding/binary"
	"hash/crc32"
	"math"
	"slices"

	"shuttlecock/api"
	"shuttlecock/diag"
)

// seven puts a number by sevens.
func seven(b []byte, v uint64) []byte { return binary.AppendUvarint(b, v) }

// summed puts the sum of some bytes behind others.
func summed(b, of []byte) []byte {
	return binary.LittleEndian.AppendUint32(b, crc32.ChecksumIEEE(of))
}

// section puts a section.
func section(b []byte, id byte, in string) []byte {
	b = binary.LittleEndian.AppendUint32(append(b, id), uint32(len(in)))
	return summed(append(b, in...), []byte(in))
}

// whole are the bytes of a file whose sections have these in them.
func whole(names, parts, places string) []byte {
	b := section([]byte("SHUT\x01\x00"), 1, names)
	b = section(b, 2, parts)
	b = section(b, 3, places)
	return summed(b, b)
}

// texts is what stands in the first section of these texts.
func texts(all ...string) string {
	b := seven(nil, uint64(len(all)))
	for _, s := range all {
		b = append(seven(b, uint64(len(s))), s...)
	}
	return string(b)
}

// names are all Names of a file, each once, in the order in which they come.
func names(f diag.File) []string {
	var all []string
	note := func(name string) {
		if !slices.Contains(all, name) {
			all = append(all, name)
		}
	}
	for _, d := range f.Diagrams {
		note(d.Name)
		for _, p := range d.Ins {
			note(p.Name)
		}
		for _, o := range d.Outs {
			note(o.Port.Name)
		}
	}
	return all
}

// sections is what stands in the three sections of a file that is right.
func sections(f diag.File) (string, string, string) {
	all := names(f)
	b := seven(nil, uint64(len(f.Diagrams)))
	var places []byte
	name := func(name string) { b = seven(b, uint64(slices.Index(all, name))) }
	source := func(s diag.Source) { b = seven(seven(b, uint64(s.Block+1)), uint64(s.Port)) }
	for _, d := range f.Diagrams {
		name(d.Name)
		b = seven(b, uint64(len(d.Ins)))
		for _, p := range d.Ins {
			name(p.Name)
			b = append(b, byte(p.Type))
		}
		b = seven(b, uint64(len(d.Outs)))
		for _, o := range d.Outs {
			name(o.Port.Name)
			b = append(b, byte(o.Port.Type))
			source(o.From)
		}
		b = seven(b, uint64(len(d.Blocks)))
		for _, x := range d.Blocks {
			b = append(b, byte(x.Kind))
			switch x.Kind {
			case 0:
				b = seven(b, uint64(x.N))
			case 1:
				b = append(b, byte(x.N))
			case 2, 3, 4:
				b = append(b, byte(x.Op))
			case 7:
				b = seven(seven(b, uint64(x.Sub)), uint64(len(x.From)))
			}
			for _, s := range x.From {
				source(s)
			}
			places = binary.LittleEndian.AppendUint32(places, uint32(x.X))
			places = binary.LittleEndian.AppendUint32(places, uint32(x.Y))
		}
	}
	return texts(all...), string(b), string(places)
}

// second is a second reading of the chapter: bytes of which it takes what
// comes next, and which it gives up by a panic with the error.
type second struct {
	rest  []byte
	texts []string
	named int  // how many texts were a Name
	short bool // the next Name would be one behind the last text
}

func (s *second) asks(is bool, e api.Errno) {
	if !is {
		panic(e)
	}
}

func (s *second) take(n int) []byte {
	s.asks(n <= len(s.rest), api.ErrShort)
	taken := s.rest[:n]
	s.rest = s.rest[n:]
	return taken
}

func (s *second) one() int { return int(s.take(1)[0]) }

func (s *second) four() uint32 { return binary.LittleEndian.Uint32(s.take(4)) }

// seven is a number by sevens: as many bytes as another one follows, ten at
// most, and one more.
func (s *second) seven(most uint64) int {
	n := 0
	for n < 9 && n < len(s.rest) && s.rest[n] >= 128 {
		n++
	}
	digits := s.take(n + 1)
	v, read := binary.Uvarint(digits)
	s.asks(read == n+1 && string(seven(nil, v)) == string(digits), api.ErrForm)
	s.asks(v <= most, api.ErrRange)
	return int(v)
}

// section is a section that is at an end when it is read.
func (s *second) section(id int, read func(in *second)) func() {
	s.asks(s.one() == id, api.ErrForm)
	long := s.four()
	s.asks(uint64(long) <= uint64(len(s.rest)), api.ErrShort)
	in := s.take(int(long))
	s.asks(s.four() == crc32.ChecksumIEEE(in), api.ErrSum)
	return func() {
		s.rest = in
		read(s)
		s.asks(len(s.rest) == 0, api.ErrForm)
	}
}

func (s *second) table() {
	for range s.seven(1<<24 - 1) {
		text := string(s.take(s.seven(65535)))
		s.asks(!slices.Contains(s.texts, text), api.ErrForm)
		s.texts = append(s.texts, text)
	}
}

func (s *second) name() string {
	i := s.seven(math.MaxUint64)
	s.short = i == s.named && i == len(s.texts)
	s.asks(0 <= i && i <= s.named && i < len(s.texts), api.ErrForm)
	s.named = max(s.named, i+1)
	return s.texts[i]
}

func (s *second) source() diag.Source {
	block := s.seven(1 << 24)
	return diag.Source{Block: block - 1, Port: s.seven(1 << 24)}
}

func (s *second) diagram() diag.Diagram {
	d := diag.Diagram{Name: s.name()}
	port := func() diag.Port {
		name := s.name()
		return diag.Port{Name: name, Type: s.one()}
	}
	for range s.seven(1<<24 - 1) {
		d.Ins = append(d.Ins, port())
	}
	for range s.seven(1<<24 - 1) {
		p := port()
		d.Outs = append(d.Outs, diag.Out{Port: p, From: s.source()})
	}
	for range s.seven(1<<24 - 1) {
		b := diag.Block{Kind: s.one()}
		s.asks(b.Kind <= 7, api.ErrForm)
		many := []int{0, 0, 1, 2, 1, 2, 3, 0}[b.Kind]
		switch b.Kind {
		case 0:
			b.N = int64(s.seven(1<<63 - 1))
		case 1:
			b.N = int64(s.one())
		case 2, 3, 4:
			b.Op = s.one()
		case 7:
			b.Sub = s.seven(1<<24 - 1)
			many = s.seven(1<<24 - 1)
		}
		for range many {
			b.From = append(b.From, s.source())
		}
		d.Blocks = append(d.Blocks, b)
	}
	return d
}

// file reads a file, and all that is asked of its bytes.
func (s *second) file(b []byte) (f diag.File) {
	for _, c := range "SHUT" {
		s.asks(s.one() == int(c), api.ErrForm)
	}
	s.asks(binary.LittleEndian.Uint16(s.take(2)) == 1, api.ErrForm)
	sections := []func(){
		s.section(1, (*second).table),
		s.section(2, func(in *second) {
			for range in.seven(1<<24 - 1) {
				f.Diagrams = append(f.Diagrams, in.diagram())
			}
		}),
		s.section(3, func(in *second) {
			for _, d := range f.Diagrams {
				for i := range d.Blocks {
					d.Blocks[i].X = int32(in.four())
					d.Blocks[i].Y = int32(in.four())
				}
			}
		}),
	}
	sum := s.four()
	s.asks(len(s.rest) == 0, api.ErrForm)
	s.asks(sum == crc32.ChecksumIEEE(b[:len(b)-4]), api.ErrSum)
	for _, read := range sections {
		read()
	}
	s.asks(s.named == len(s.texts) && f.Right(), api.ErrForm)
	return f
}

// reads is what the chapter tells of bytes; and whether a Name's number is the
// next one, but no text has it: the chapter does not tell whether that is
// asked there, or at last.
func reads(b []byte) (f diag.File, e api.Errno, either bool) {
	s := second{rest: b}
	defer func() {
		if x := recover(); x != nil {
			f, e, either = diag.File{}, x.(api.Errno), s.short
		}
	}()
	return s.file(b), api.OK, false
}
