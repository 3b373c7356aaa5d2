package flow_test

import (
	"reflect"
	"slices"
	"strconv"
	"strings"
	"testing"

	"shuttlecock/api"
	"shuttlecock/diag"
	"shuttlecock/flow"
	"shuttlecock/sketch"
)

// TestWhateverComes holds what is answered of any files against the second
// reading.
func TestWhateverComes(t *testing.T) {
	count := map[api.Errno]int{}
	for seed := range uint64(20000) {
		f, kept := anyFile(seed), anyFile(seed)
		want := api.ErrArg
		if f.Right() {
			want = reads(f)
		}
		count[want]++
		x, e := flow.Check(f)
		if e != want || (x == nil) != (e != api.OK) {
			t.Fatalf("P11.1: seed %d: %d, not %d: %+v", seed, e, want, f)
		}
		if e == api.OK {
			first := everything(t, x, f)
			ruin(f)
			if everything(t, x, kept) != first {
				t.Fatalf("R4: seed %d: what was handed in is kept", seed)
			}
			f = anyFile(seed)
			if y, _ := flow.Check(f); everything(t, y, f) != first {
				t.Fatalf("R6: seed %d: asked twice, and not answered likewise", seed)
			}
		}
		if !reflect.DeepEqual(f, kept) {
			t.Fatalf("R4: seed %d: what is handed in is changed", seed)
		}
	}
	for _, e := range []api.Errno{api.OK, api.ErrName, api.ErrType, api.ErrArity, api.ErrCycle, api.ErrDefine, api.ErrArg} {
		if count[e] < 200 {
			t.Errorf("only %d of the error %d", count[e], e)
		}
	}
}

// ruin changes all of a file.
func ruin(f diag.File) {
	for i := range f.Diagrams {
		d := &f.Diagrams[i]
		for j := range d.Ins {
			d.Ins[j] = diag.Port{Name: "other", Type: 1 - d.Ins[j].Type}
		}
		for j := range d.Outs {
			d.Outs[j].Port.Type ^= 1
			d.Outs[j].From = diag.Source{Block: -9}
		}
		for j := range d.Blocks {
			b := &d.Blocks[j]
			for k := range b.From {
				b.From[k] = diag.Source{Block: -9}
			}
			*b = diag.Block{Kind: diag.Sub, Sub: -9}
		}
		*d = diag.Diagram{Name: "other"}
	}
}

// everything is all that is answered of a file that is sound, as words; it is
// held against the second reading.
func everything(t *testing.T, x *flow.Types, f diag.File) string {
	t.Helper()
	s := second{f}
	var all strings.Builder
	if got := x.Diagrams(); !slices.Equal(got, order(s.hasAll())) {
		t.Fatalf("P11.2: Diagrams: %v, not %v: %+v", got, order(s.hasAll()), f)
	}
	all.WriteString(joined(x.Diagrams()))
	for i, d := range f.Diagrams {
		if j, is := x.Find(d.Name); j != i || !is {
			t.Fatalf("P11.2: Find(%q): %d, %t", d.Name, j, is)
		}
		if got := x.Order(i); !slices.Equal(got, order(s.hangsAll(d))) {
			t.Fatalf("P11.2: Order(%d): %v, not %v: %+v", i, got, order(s.hangsAll(d)), d)
		}
		all.WriteString(", " + joined(x.Order(i)) + ":")
		for block := -2; block <= len(d.Blocks); block++ {
			for port := -1; port < 5; port++ {
				from := diag.Source{Block: block, Port: port}
				kind, is := x.Of(i, from)
				want := ""
				if there(f, d, from) {
					want = s.letter(d, from)
				}
				if is != (want != "") || is && "ib"[kind:kind+1] != want || !is && kind != 0 {
					t.Fatalf("P11.2: Of(%d, %v): %d, %t, not %q: %+v", i, from, kind, is, want, d)
				}
				all.WriteString(strconv.Itoa(kind))
			}
		}
	}
	return all.String()
}

// there: is there a source in a diagram?
func there(f diag.File, d diag.Diagram, s diag.Source) bool {
	switch {
	case s.Port < 0 || s.Block < -1 || s.Block >= len(d.Blocks):
		return false
	case s.Block == -1:
		return s.Port < len(d.Ins)
	}
	return s.Port < f.Results(d.Blocks[s.Block])
}

// TestAnswersShareNothing changes answers, and asks again.
func TestAnswersShareNothing(t *testing.T) {
	f := sketch.File("f a:int > b:int=#0 | neg #1 | neg a | @g \n g > b:int=#0 | 1")
	x, _ := flow.Check(f)
	for range 2 {
		l, m := x.Order(0), x.Diagrams()
		if joined(l) != "1 0 2" || joined(m) != "1 0" {
			t.Fatalf("R4: Order: %v, Diagrams: %v", l, m)
		}
		_, _ = append(l[:1], 5), append(m[:0], 7)
		l[0], l[2], m[1] = 7, -7, 7
	}
	y, _ := flow.Check(f)
	if got := everything(t, y, f); got != everything(t, x, f) {
		t.Fatalf("R4: %s", got)
	}
}

// before is a list behind whose end one more thing stands.
func before[T any](l []T, x T) []T {
	return append(slices.Clone(l), x)[:len(l)]
}

// behind is what stands behind a list's end.
func behind[T any](l []T) T {
	return l[:len(l)+1][len(l)]
}

func TestBehindLists(t *testing.T) {
	f := base(t)
	d := &f.Diagrams[0]
	d.Ins = before(d.Ins, diag.Port{Name: "x"})
	d.Outs = before(d.Outs, diag.Out{Port: diag.Port{Name: "x"}})
	d.Blocks = before(d.Blocks, diag.Block{N: 7})
	d.Blocks[3].From = before(d.Blocks[3].From, diag.Source{Port: 7})
	x, e := flow.Check(f)
	if e != api.OK || everything(t, x, f) != everything(t, x, base(t)) {
		t.Errorf("R4: %d", e)
	}
	if behind(d.Ins).Name != "x" || behind(d.Outs).Port.Name != "x" || behind(d.Blocks).N != 7 || behind(d.Blocks[3].From).Port != 7 {
		t.Error("R4: what stands behind a list is changed")
	}
}

func TestNilAndEmpty(t *testing.T) {
	for _, f := range []diag.File{{}, {Diagrams: []diag.Diagram{}}} {
		answers(t, "no diagrams", f, api.OK)
		x, _ := flow.Check(f)
		if len(x.Diagrams()) != 0 || len(x.Order(0)) != 0 {
			t.Errorf("P11.2: %v, %v", x.Diagrams(), x.Order(0))
		}
		if _, is := x.Find(""); is {
			t.Error("P11.2: a diagram without a name")
		}
	}
	const text = "f > b:int=#0 | 1 | true | @f2 \n f2 > b:int=#0 | 1"
	f, o := sketch.File(text), sketch.File(text)
	for i := range o.Diagrams {
		d := &o.Diagrams[i]
		d.Ins = []diag.Port{}
		for j := range d.Blocks {
			d.Blocks[j].From = []diag.Source{}
		}
	}
	x, _ := flow.Check(f)
	y, e := flow.Check(o)
	if e != api.OK || everything(t, x, f) != everything(t, y, o) {
		t.Errorf("R3: %d", e)
	}
	for _, outs := range [][]diag.Out{nil, {}} {
		o.Diagrams[1].Outs = outs
		answers(t, "Outs that are nil, or empty", o, api.ErrDefine)
	}
}

// TestTypesOfNothing asks what no call has made.
func TestTypesOfNothing(t *testing.T) {
	var x flow.Types
	for _, s := range []diag.Source{{}, {Block: -1}} {
		if kind, is := x.Of(0, s); kind != 0 || is {
			t.Errorf("R1: Of: %d, %t", kind, is)
		}
	}
	if i, is := x.Find("a"); i != 0 || is {
		t.Errorf("R1: Find: %d, %t", i, is)
	}
	if len(x.Order(0)) != 0 || len(x.Diagrams()) != 0 {
		t.Errorf("R1: %v, %v", x.Order(0), x.Diagrams())
	}
}

// TestPlaces asks of a file whose blocks stand elsewhere: that does not count.
func TestPlaces(t *testing.T) {
	for seed := range uint64(500) {
		f, o := anyFile(seed), anyFile(seed)
		for i := range o.Diagrams {
			for j := range o.Diagrams[i].Blocks {
				b := &o.Diagrams[i].Blocks[j]
				b.X, b.Y = -b.Y, b.X+1
			}
		}
		x, e := flow.Check(f)
		y, again := flow.Check(o)
		if e != again || e == api.OK && everything(t, x, f) != everything(t, y, o) {
			t.Fatalf("P11.1: seed %d: %d, and %d", seed, e, again)
		}
	}
}

func TestNothingIsKept(t *testing.T) {
	f := base(t)
	x, _ := flow.Check(f)
	first := everything(t, x, f)
	for seed := range uint64(300) {
		if y, e := flow.Check(anyFile(seed)); e == api.OK {
			y.Of(0, diag.Source{})
			y.Find("f")
			y.Order(0)
			y.Diagrams()
		}
	}
	if everything(t, x, f) != first {
		t.Error("R6: what is answered hangs on what was asked ahead of it")
	}
	answers(t, "base", f, api.OK)
}
