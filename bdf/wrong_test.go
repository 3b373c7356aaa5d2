package bdf_test

import (
	"encoding/binary"
	"hash/crc32"
	"strconv"
	"strings"
	"testing"

	"shuttlecock/api"
	"shuttlecock/bdf"
	"shuttlecock/diag"
)

// frame is what a file's bytes are put together of, piece by piece.
type frame struct {
	mark     [4]byte
	version  string
	ids      [3]byte
	longer   [3]int // by how much each section's length is another one
	sums     [3]uint32
	sum      uint32 // the sums are turned by these
	table    string
	diagrams string // how many
	kind     string
	outName  string
	outType  string
	result   string // of the block's source
	places   string
	behind   [3]string // what stands behind all else in each section
	left     string
	lacks    int // how many bytes lack at the end
}

// base is the frame of a small file.
func base() frame {
	return frame{
		mark: [4]byte{'S', 'H', 'U', 'T'}, version: "\x01\x00", ids: [3]byte{1, 2, 3}, table: texts("f", "a"),
		diagrams: "\x01", outName: "\x01", outType: "\x01", kind: "\x04", result: "\x00", places: "\x01\x00\x00\x00\x02\x00\x00\x00",
	}
}

// bytes are those of a frame.
func (f frame) bytes() []byte {
	parts := f.diagrams + "\x00\x01\x01\x00\x01" + f.outName + f.outType + "\x01\x00\x01" + f.kind + "\x01\x00" + f.result
	b := append(f.mark[:], f.version...)
	for i, in := range []string{f.table, parts, f.places} {
		in += f.behind[i]
		b = binary.LittleEndian.AppendUint32(append(b, f.ids[i]), uint32(len(in)+f.longer[i]))
		b = append(b, in...)
		b = binary.LittleEndian.AppendUint32(b, crc32.ChecksumIEEE([]byte(in))^f.sums[i])
	}
	b = binary.LittleEndian.AppendUint32(b, crc32.ChecksumIEEE(b)^f.sum)
	return append(b[:len(b)-f.lacks], f.left...)
}

// fault is a change of a frame.
type fault struct {
	what   string
	of     string // what is changed, if others change it, too
	change func(f *frame)
}

// faults are changes of a frame, and their errors, in the order in which they
// are asked.
var faults = []struct {
	e   api.Errno
	all []fault
}{
	{api.ErrForm, []fault{{"the first byte", "", func(f *frame) { f.mark[0] = 's' }}}},
	{api.ErrForm, []fault{{"the last of four bytes", "", func(f *frame) { f.mark[3] ^= 1 }}}},
	{api.ErrForm, []fault{
		{"the version 2", "version", func(f *frame) { f.version = "\x02\x00" }},
		{"the version 257", "version", func(f *frame) { f.version = "\x01\x01" }},
		{"the version 0", "version", func(f *frame) { f.version = "\x00\x00" }},
	}},
	{api.ErrForm, []fault{{"the first section's number", "", func(f *frame) { f.ids[0] = 2 }}}},
	{api.ErrShort, []fault{{"the first section's length", "", func(f *frame) { f.longer[0] = 1 << 20 }}}},
	{api.ErrSum, []fault{{"the first section's sum", "", func(f *frame) { f.sums[0] = 1 }}}},
	{api.ErrForm, []fault{{"the second section's number", "", func(f *frame) { f.ids[1] = 3 }}}},
	{api.ErrShort, []fault{{"the second section's length", "", func(f *frame) { f.longer[1] = 1 << 20 }}}},
	{api.ErrSum, []fault{{"the second section's sum", "", func(f *frame) { f.sums[1] = 1 << 31 }}}},
	{api.ErrForm, []fault{{"the third section's number", "", func(f *frame) { f.ids[2] = 0 }}}},
	{api.ErrShort, []fault{{"the third section's length", "", func(f *frame) { f.longer[2] = 1 << 20 }}}},
	{api.ErrSum, []fault{{"the third section's sum", "", func(f *frame) { f.sums[2] = 1 << 8 }}}},
	{api.ErrShort, []fault{
		{"all bytes of the sum lack", "end", func(f *frame) { f.lacks = 4 }},
		{"a byte of the sum lacks", "end", func(f *frame) { f.lacks = 1 }},
	}},
	{api.ErrForm, []fault{{"a byte is left", "end", func(f *frame) { f.left = "\x00" }}}},
	{api.ErrSum, []fault{
		{"the sum's first bit", "sum", func(f *frame) { f.sum = 1 }},
		{"the sum's last bit", "sum", func(f *frame) { f.sum = 1 << 31 }},
	}},
	{api.ErrShort, []fault{
		{"no table", "table", func(f *frame) { f.table = "" }},
		{"a text lacks", "table", func(f *frame) { f.table = "\x03\x01f\x01a" }},
	}},
	{api.ErrForm, []fault{{"a byte behind the table", "", func(f *frame) { f.behind[0] = "\xff" }}}},
	{api.ErrRange, []fault{{"2^24 diagrams", "", func(f *frame) { f.diagrams = just24 }}}},
	{api.ErrForm, []fault{{"the last Name", "", func(f *frame) { f.outName = "\x03" }}}},
	{api.ErrForm, []fault{{"a kind of 8", "", func(f *frame) { f.kind = "\x08" }}}},
	{api.ErrShort, []fault{{"a result's number lacks", "result", func(f *frame) { f.result = "" }}}},
	{api.ErrRange, []fault{{"a result's number", "result", func(f *frame) { f.result = above24 }}}},
	{api.ErrForm, []fault{{"a byte behind the diagrams", "", func(f *frame) { f.behind[1] = "\xff" }}}},
	{api.ErrShort, []fault{
		{"no places", "places", func(f *frame) { f.places = "" }},
		{"a byte of Y lacks", "places", func(f *frame) { f.places = f.places[1:] }},
	}},
	{api.ErrForm, []fault{{"a byte behind the places", "places", func(f *frame) { f.behind[2] = "\xff" }}}},
	{api.ErrForm, []fault{
		{"a Type of 2", "", func(f *frame) { f.outType = "\x02" }},
		{"a text that is no Name", "table", func(f *frame) { f.table = texts("f", "a", "b") }},
	}},
}

func TestBase(t *testing.T) {
	f := of(diag.Diagram{
		Name:   "f",
		Ins:    []diag.Port{{Name: "a"}},
		Outs:   []diag.Out{{Port: diag.Port{Name: "a", Type: 1}, From: at(0, 0)}},
		Blocks: []diag.Block{{Kind: diag.Delay, Op: 1, From: []diag.Source{in(0)}, X: 1, Y: 2}},
	})
	stands(t, "the file without faults", f, base().bytes())
}

// TestWhatIsFirst puts two faults to a file: the one that is asked first
// counts.
func TestWhatIsFirst(t *testing.T) {
	for i, one := range faults {
		for _, x := range one.all {
			f := base()
			x.change(&f)
			wrong(t, x.what, f.bytes(), one.e)
			for _, two := range faults[i+1:] {
				for _, y := range two.all {
					if x.of != "" && x.of == y.of {
						continue
					}
					f := base()
					x.change(&f)
					y.change(&f)
					wrong(t, x.what+", and "+y.what, f.bytes(), one.e)
				}
			}
		}
	}
}

// TestCut asks of a file's bytes, from the front: whatever is asked of them
// is there, but for what lacks.
func TestCut(t *testing.T) {
	for _, f := range []diag.File{{}, small(), many(3)} {
		b := whole(sections(f))
		for n := range b {
			wrong(t, strconv.Itoa(n)+" bytes", b[:n], api.ErrShort)
		}
	}
	for _, c := range []struct {
		b    string
		want api.Errno
	}{
		{"", api.ErrShort},
		{"SHX", api.ErrForm},
		{"sH", api.ErrForm},
		{"SHU\x00", api.ErrForm},
		{"HSUT\x01\x00", api.ErrForm},
		{"SHUT\x02", api.ErrShort},
		{"SHUT\x00\x01", api.ErrForm},
		{"SHUT\x01\x00\x02", api.ErrForm},
		{"SHUT\x01\x00\x00", api.ErrForm},
		{"SHUT\x01\x00\x01\xff\xff\xff", api.ErrShort},
		{"SHUT\x01\x00\x01\x00\x00\x00\x00\x00\x00\x00", api.ErrShort},
		{"SHUT\x01\x00\x01\x00\x00\x00\x00\x00\x00\x00\x01", api.ErrSum},
		{"SHUT\x01\x00\x01\x00\x00\x00\x00\x00\x00\x00\x00", api.ErrShort},
		{"SHUT\x01\x00\x01\x00\x00\x00\x00\x00\x00\x00\x00\x01", api.ErrForm},
	} {
		wrong(t, strconv.Quote(c.b), []byte(c.b), c.want)
	}
	wrong(t, "no bytes", nil, api.ErrShort)
}

// TestLeft asks of bytes behind a file's: other ones, or the same again.
func TestLeft(t *testing.T) {
	for _, f := range []diag.File{{}, small()} {
		b := whole(sections(f))
		for _, left := range []string{"\x00", "\xff", "SHUT", string(b), strings.Repeat("\x00", 1000)} {
			wrong(t, "bytes that are left", append(b[:len(b):len(b)], left...), api.ErrForm)
			more := append(b[:len(b)-4:len(b)-4], left...)
			wrong(t, "bytes ahead of the sum", summed(more, more), api.ErrForm)
		}
	}
}

// within asks of a file's sections which error they are.
func within(t *testing.T, what, names, parts, places string, want api.Errno) {
	t.Helper()
	if want == api.OK {
		f, e := bdf.Decode(whole(names, parts, places))
		if e != api.OK || !f.Right() {
			t.Errorf("P13.2: %s: %d", what, e)
		}
		return
	}
	wrong(t, what, whole(names, parts, places), want)
}

// great are numbers by sevens that are wrong, whatever may be there.
var great = []struct {
	b string
	e api.Errno
}{
	{"", api.ErrShort},
	{"\x80", api.ErrShort},
	{"\xff\xff\xff\xff\xff\xff\xff\xff\xff", api.ErrShort},
	{"\x80\x00", api.ErrForm},
	{"\x81\x80\x00", api.ErrForm},
	{"\xff\xff\xff\xff\xff\xff\xff\xff\xff\x02", api.ErrForm},
	{"\xff\xff\xff\xff\xff\xff\xff\xff\xff\x80", api.ErrForm},
}

// The greatest numbers by sevens of some counts of bits, and those above.
const (
	below24 = "\xff\xff\xff\x07"
	just24  = "\x80\x80\x80\x08"
	above24 = "\x81\x80\x80\x08"
	below63 = "\xff\xff\xff\xff\xff\xff\xff\xff\x7f"
	just63  = "\x80\x80\x80\x80\x80\x80\x80\x80\x80\x01"
	below64 = "\xff\xff\xff\xff\xff\xff\xff\xff\xff\x01"
)

// TestNumbers puts numbers at each place of the second section where one by
// sevens stands, with nothing behind it: if there is nothing wrong with it,
// bytes lack, there or in the third section.
func TestNumbers(t *testing.T) {
	type number struct {
		b string
		e api.Errno
	}
	counts := []number{{below24, api.ErrShort}, {just24, api.ErrRange}, {just63, api.ErrRange}, {below64, api.ErrRange}}
	names := []number{{"\x02", api.ErrForm}, {"\x7f", api.ErrForm}, {just24, api.ErrForm}, {just63, api.ErrForm}, {below64, api.ErrForm}}
	ofSource := []number{{just24, api.ErrShort}, {above24, api.ErrRange}, {just63, api.ErrRange}, {below64, api.ErrRange}}
	for _, c := range []struct {
		what, ahead string
		all         []number
	}{
		{"how many diagrams", "", counts},
		{"a Name", "\x01", append(names, number{"\x01", api.ErrForm})},
		{"how many Ins", "\x01\x00", counts},
		{"an In's Name", "\x01\x00\x01", names},
		{"how many Outs", "\x01\x00\x00", counts},
		{"an Out's Name", "\x01\x00\x00\x01", names},
		{"an Out's block", "\x01\x00\x00\x01\x00\x00", ofSource},
		{"an Out's result", "\x01\x00\x00\x01\x00\x00\x01", ofSource},
		{"how many blocks", "\x01\x00\x00\x00", counts},
		{"an int", "\x01\x00\x00\x00\x01\x00", []number{{below63, api.OK}, {just63, api.ErrRange}, {below64, api.ErrRange}}},
		{"a source's block", "\x01\x00\x00\x00\x01\x02\x00", ofSource},
		{"a source's result", "\x01\x00\x00\x00\x01\x02\x00\x01", ofSource},
		{"the third one's block", "\x01\x00\x00\x00\x01\x06\x00\x00\x00\x00", ofSource},
		{"the third one's result", "\x01\x00\x00\x00\x01\x06\x00\x00\x00\x00\x00", ofSource},
		{"a diagram", "\x01\x00\x00\x00\x01\x07", counts},
		{"how many sources", "\x01\x00\x00\x00\x01\x07\x00", counts},
		{"a diagram's source", "\x01\x00\x00\x00\x01\x07\x00\x01", ofSource},
		{"a diagram's source's result", "\x01\x00\x00\x00\x01\x07\x00\x01\x00", ofSource},
	} {
		for _, x := range c.all {
			places := ""
			if x.e == api.OK {
				places = strings.Repeat("\x00", 8)
			}
			within(t, c.what+": "+strconv.Quote(x.b), texts("f"), c.ahead+x.b, places, x.e)
		}
		for _, x := range great {
			within(t, c.what+": "+strconv.Quote(x.b), texts("f"), c.ahead+x.b, "", x.e)
		}
	}
}

// TestManySources asks of a diagram of very many sources, that are a few, or all.
func TestManySources(t *testing.T) {
	const n = 1 << 21
	parts := "\x01\x00\x00\x00\x01\x07\x00" + string(seven(nil, n))
	within(t, "2^21 sources, all but one there", texts("f"), parts+strings.Repeat("\x01\x00", n-1), strings.Repeat("\x00", 8), api.ErrShort)
	within(t, "2^21 sources, no results", texts("f"), parts+strings.Repeat("\x01\x00", n), strings.Repeat("\x00", 8), api.ErrForm)
	parts = "\x01\x00\x01\x00\x00\x00\x01\x07\x00" + string(seven(nil, n))
	within(t, "2^21 sources of an in-port", texts("f"), parts+strings.Repeat("\x00\x00", n), strings.Repeat("\x00", 8), api.OK)
}

// TestFirstSection asks of the table of Names.
func TestFirstSection(t *testing.T) {
	long := strings.Repeat("n", 65536)
	for _, c := range []struct {
		what, names string
		want        api.Errno
	}{
		{"nothing", "", api.ErrShort},
		{"2^24 texts", just24, api.ErrRange},
		{"2^24 - 1 texts that lack", below24, api.ErrShort},
		{"a count of two bytes", "\x81\x00\x01f", api.ErrForm},
		{"a text's byte lacks", "\x01\x02f", api.ErrShort},
		{"a text of 65536 bytes", texts(long), api.ErrRange},
		{"a text twice", texts("f", "f"), api.ErrForm},
		{"a byte behind", texts("f") + "f", api.ErrForm},
		{"a text", texts("f"), api.OK},
		{"no byte in it", texts(""), api.OK},
		{"any bytes", texts("\x00\xff\n"), api.OK},
		{"65535 bytes", texts(long[1:]), api.OK},
	} {
		within(t, c.what, c.names, "\x01\x00\x00\x00\x00", "", c.want)
		if c.want != api.OK {
			within(t, c.what+", and nothing else is right", c.names, "\x80", "\x00", c.want)
		}
	}
}

// TestNumbersOfNames asks of the numbers of Names, and of the texts that are
// none.
func TestNumbersOfNames(t *testing.T) {
	for _, c := range []struct {
		what, names, parts string
		want               api.Errno
	}{
		{"two, in order", texts("f", "g"), "\x02\x00\x00\x00\x00\x01\x00\x00\x00", api.OK},
		{"one twice", texts("f"), "\x02\x00\x00\x00\x00\x00\x00\x00\x00", api.OK},
		{"the first one again", texts("f", "g"), "\x03\x00\x00\x00\x00\x01\x00\x00\x00\x00\x00\x00\x00", api.OK},
		{"the second one first", texts("f", "g"), "\x02\x01\x00\x00\x00\x00\x00\x00\x00", api.ErrForm},
		{"the third one second", texts("f", "g", "h"), "\x03\x00\x00\x00\x00\x02\x00\x00\x00\x01\x00\x00\x00", api.ErrForm},
		{"one that is not there", texts("f"), "\x02\x00\x00\x00\x00\x01\x00\x00\x00", api.ErrForm},
		{"one of none", texts(), "\x01\x00\x00\x00\x00", api.ErrForm},
		{"a text more", texts("f", "g", "h"), "\x02\x00\x00\x00\x00\x01\x00\x00\x00", api.ErrForm},
		{"a text of no diagrams", texts("f"), "\x00", api.ErrForm},
		{"two of a diagram and its In", texts("f", "a"), "\x01\x00\x01\x01\x00\x00\x00", api.OK},
		{"an In's second", texts("f", "a"), "\x01\x00\x02\x01\x00\x01\x00\x00\x00", api.OK},
		{"an In's that is too great", texts("f", "a", "b"), "\x01\x00\x02\x02\x00\x01\x00\x00\x00", api.ErrForm},
		{"Ins ahead of Outs", texts("f", "a", "b"), "\x01\x00\x01\x01\x00\x01\x02\x00\x00\x00\x00", api.OK},
		{"Outs ahead of Ins", texts("f", "b", "a"), "\x01\x00\x01\x02\x00\x01\x01\x00\x00\x00\x00", api.ErrForm},
	} {
		within(t, c.what, c.names, c.parts, "", c.want)
	}
}

// TestKinds asks of each byte that may be a kind.
func TestKinds(t *testing.T) {
	ahead := "\x01\x00\x00\x00\x01"
	for kind := 8; kind < 256; kind++ {
		within(t, "the kind "+strconv.Itoa(kind), texts("f"), ahead+string([]byte{byte(kind)}), "", api.ErrForm)
		within(t, "the kind "+strconv.Itoa(kind)+", and more", texts("f"), ahead+string([]byte{byte(kind)})+strings.Repeat("\x00", 9), "", api.ErrForm)
	}
	for kind := range 8 {
		within(t, "the kind "+strconv.Itoa(kind)+" alone", texts("f"), ahead+string(rune(kind)), "", api.ErrShort)
	}
}

// TestNotRightAtLast asks of bytes that are a file's that is not right: that
// is told behind all else.
func TestNotRightAtLast(t *testing.T) {
	block := "\x01\x00\x01\x00\x00\x00\x01"
	eight := strings.Repeat("\x00", 8)
	for _, c := range []struct {
		what, parts string
		places      string
	}{
		{"an In's Type of 2", "\x01\x00\x01\x00\x02\x00\x00", ""},
		{"an In's Type of 255", "\x01\x00\x01\x00\xff\x00\x00", ""},
		{"an Out's Type of 2", "\x01\x00\x01\x00\x00\x01\x00\x02\x00\x00\x00", ""},
		{"an Out of no in-port", "\x01\x00\x01\x00\x00\x01\x00\x00\x00\x01\x00", ""},
		{"an Out of no block", "\x01\x00\x01\x00\x00\x01\x00\x00\x01\x00\x00", ""},
		{"an Out of the greatest block", "\x01\x00\x01\x00\x00\x01\x00\x00" + just24 + "\x00\x00", ""},
		{"an Out of the greatest in-port", "\x01\x00\x01\x00\x00\x01\x00\x00\x00" + just24 + "\x00", ""},
		{"a bool of 2", block + "\x01\x02", eight},
		{"a bool of 255", block + "\x01\xff", eight},
		{"an op of one of 2", block + "\x02\x02\x00\x00", eight},
		{"an op of one of 255", block + "\x02\xff\x00\x00", eight},
		{"an op of two of 0", block + "\x03\x00\x00\x00\x00\x00", eight},
		{"an op of two of 16", block + "\x03\x10\x00\x00\x00\x00", eight},
		{"a delay of 2", block + "\x04\x02\x00\x00", eight},
		{"a start of a block behind all", block + "\x05\x00\x00\x02\x00", eight},
		{"a choice of no in-port", block + "\x06\x00\x00\x00\x00\x00\x01", eight},
		{"a result of itself", block + "\x06\x00\x00\x01\x01\x00\x00", eight},
		{"a diagram that is not there", block + "\x07\x01\x00", eight},
		{"the greatest diagram", block + "\x07" + below24 + "\x00", eight},
		{"a result of a diagram without Outs", block + "\x07\x00\x01\x01\x00", eight},
	} {
		within(t, c.what, texts("f"), c.parts, c.places, api.ErrForm)
		within(t, c.what+", and a byte is left", texts("f"), c.parts+"\x00", "", api.ErrForm)
		within(t, c.what+", and bytes lack", texts("f"), "\x02"+c.parts[1:], c.places, api.ErrShort)
		within(t, c.what+", and a text more", texts("f", "g"), c.parts, c.places, api.ErrForm)
		if c.places != "" {
			within(t, c.what+", and a place lacks", texts("f"), c.parts, "", api.ErrShort)
			within(t, c.what+", and a place's byte lacks", texts("f"), c.parts, c.places[1:], api.ErrShort)
		}
	}
	for what, parts := range map[string]string{
		"a bool": "\x01\x01", "an op": "\x03\x01\x00\x00\x00\x00", "a delay of itself": "\x04\x01\x01\x00",
		"the diagram": "\x07\x00\x00", "the diagram of more": "\x07\x00\x02\x00\x00\x00\x00",
	} {
		within(t, what, texts("f"), block+parts, eight, api.OK)
		within(t, what+", of two places", texts("f"), block+parts, eight+eight, api.ErrForm)
		for n := range 8 {
			within(t, what+", a place lacks", texts("f"), block+parts, eight[:n], api.ErrShort)
		}
	}
}
