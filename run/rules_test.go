package run_test

import (
	"math"
	"math/rand/v2"
	"reflect"
	"slices"
	"testing"

	"shuttlecock/api"
	"shuttlecock/diag"
	"shuttlecock/flow"
	"shuttlecock/run"
	"shuttlecock/sem"
	"shuttlecock/sketch"
)

// dice are those of a seed.
func dice(seed uint64) *rand.Rand {
	return rand.New(rand.NewPCG(seed, 12))
}

// anyFile is that of a seed, and what may come into its diagrams.
func anyFile(seed uint64) (diag.File, [][][]sem.Value) {
	d := dice(seed)
	f := sketch.Any(d)
	var ins [][][]sem.Value
	for _, x := range f.Diagrams {
		ins = append(ins, sketch.AnyTrace(d, x.Ins))
	}
	return f, ins
}

// TestWhateverComes holds what goes out of the diagrams of any files against
// the second reading.
func TestWhateverComes(t *testing.T) {
	count := map[string]int{}
	for seed := range uint64(5000) {
		f, ins := anyFile(seed)
		for i, d := range f.Diagrams {
			want := weighs(f, i)
			if w, e := run.Weight(f, d.Name); w != min(want, 10001) || e != api.OK {
				t.Fatalf("P12.1: seed %d: Weight: %d, %d, not %d: %+v", seed, w, e, want, f)
			}
			if want > 10000 {
				continue
			}
			out, e := run.Run(f, d.Name, ins[i])
			if want := reads(f, i, ins[i]); sketch.Words(out) != sketch.Words(want) || e != api.OK {
				t.Fatalf("P12.1: seed %d: diagram %d of %s: %s, %d, not %s: %+v", seed, i, sketch.Words(ins[i]), sketch.Words(out), e, sketch.Words(want), f)
			}
			for _, v := range slices.Concat(out...) {
				count[v.String()]++
			}
		}
		o, again := anyFile(seed)
		if !reflect.DeepEqual(f, o) || !reflect.DeepEqual(ins, again) {
			t.Fatalf("R4: seed %d: what is handed in is changed", seed)
		}
	}
	for _, s := range []string{"nil", "err", "true", "false", "0", "1", "-1"} {
		if count[s] < 100 {
			t.Errorf("only %d times %s", count[s], s)
		}
	}
}

// TestHangsOnWhatCameIn holds what goes out against what goes out of a trace
// that is another one from some instant on, or ends there.
func TestHangsOnWhatCameIn(t *testing.T) {
	held := 0
	for seed := range uint64(1000) {
		f, ins := anyFile(seed)
		for i, d := range f.Diagrams {
			whole, _ := run.Run(f, d.Name, ins[i])
			for at := range len(whole) + 1 {
				other := slices.Concat(ins[i][:at], sketch.AnyTrace(dice(uint64(at)), d.Ins))
				for _, ins := range [][][]sem.Value{ins[i][:at], other} {
					out, e := run.Run(f, d.Name, ins)
					if e != api.OK || sketch.Words(out[:at]) != sketch.Words(whole[:at]) {
						t.Fatalf("P12.2: seed %d: diagram %d to %d: %s, not %s", seed, i, at, sketch.Words(out), sketch.Words(whole))
					}
				}
				held += at
			}
		}
	}
	if held < 10000 {
		t.Errorf("only %d instants are held against another one", held)
	}
}

// likewise asks for the same of the diagrams of two files, by their names.
func likewise(t *testing.T, what string, f, o diag.File, ins [][][]sem.Value) {
	t.Helper()
	for i, d := range f.Diagrams {
		out, e := run.Run(f, d.Name, ins[i])
		other, again := run.Run(o, d.Name, ins[i])
		if e != again || sketch.Words(out) != sketch.Words(other) {
			t.Fatalf("%s: %s of %s: %s, %d, not %s, %d: %+v", what, d.Name, sketch.Words(ins[i]), sketch.Words(other), again, sketch.Words(out), e, f)
		}
	}
}

// TestPlaces moves blocks on the grid: that does not count.
func TestPlaces(t *testing.T) {
	for seed := range uint64(1000) {
		f, ins := anyFile(seed)
		o, _ := anyFile(seed)
		d := dice(seed)
		for _, x := range o.Diagrams {
			for i := range x.Blocks {
				b := &x.Blocks[i]
				b.X, b.Y = []int32{0, b.Y, math.MinInt32, math.MaxInt32, 7}[d.IntN(5)], int32(d.Uint32())
			}
		}
		likewise(t, "P12.2: moved", f, o, ins)
	}
}

// TestOrderOfBlocks numbers blocks, and diagrams, from behind: what goes out is
// the same.
func TestOrderOfBlocks(t *testing.T) {
	turned := func(i, all int) int { return all - 1 - i }
	for seed := range uint64(1000) {
		f, ins := anyFile(seed)
		o, _ := anyFile(seed)
		for _, d := range o.Diagrams {
			turn := func(s *diag.Source) {
				if s.Block >= 0 {
					s.Block = turned(s.Block, len(d.Blocks))
				}
			}
			slices.Reverse(d.Blocks)
			for i := range d.Outs {
				turn(&d.Outs[i].From)
			}
			for i := range d.Blocks {
				b := &d.Blocks[i]
				for j := range b.From {
					turn(&b.From[j])
				}
				if b.Kind == diag.Sub {
					b.Sub = turned(b.Sub, len(o.Diagrams))
				}
			}
		}
		slices.Reverse(o.Diagrams)
		likewise(t, "P12.1: turned", f, o, ins)
	}
}

// TestSpoiltFiles changes something of a block: whatever is sound is run, and
// of all else the error is layer 11's.
func TestSpoiltFiles(t *testing.T) {
	count := map[bool]int{}
	for seed := range uint64(5000) {
		f, ins := anyFile(seed)
		d := dice(seed + 1)
		x := f.Diagrams[d.IntN(len(f.Diagrams))]
		if len(x.Blocks) == 0 {
			continue
		}
		b := &x.Blocks[d.IntN(len(x.Blocks))]
		wild := []int{-1, 0, 1, 2, 3, 7, 8, math.MinInt, math.MaxInt}
		n := wild[d.IntN(len(wild))]
		switch d.IntN(7) {
		case 0:
			b.Kind = n
		case 1:
			b.Op = n
		case 2:
			b.Sub = n
		case 3:
			b.N = int64(n)
		case 4:
			b.From = append(b.From, diag.Source{Block: n})
		default:
			for i := range b.From {
				b.From[i] = diag.Source{Block: d.IntN(len(x.Blocks)+2) - 1, Port: d.IntN(2)}
			}
		}
		_, want := flow.Check(f)
		count[want == api.OK]++
		for i, x := range f.Diagrams {
			w, e := run.Weight(f, x.Name)
			if e != want || e != api.OK && w != 0 {
				t.Fatalf("P12.1: seed %d: Weight: %d, %d, not %d: %+v", seed, w, e, want, f)
			}
			out, e := run.Run(f, x.Name, ins[i])
			if e != want || e != api.OK && out != nil {
				t.Fatalf("P12.1: seed %d: Run: %s, %d, not %d: %+v", seed, sketch.Words(out), e, want, f)
			}
			if e == api.OK && sketch.Words(out) != sketch.Words(reads(f, i, ins[i])) {
				t.Fatalf("P12.1: seed %d: Run: %s: %+v", seed, sketch.Words(out), f)
			}
		}
	}
	if count[true] < 500 || count[false] < 500 {
		t.Errorf("only %d are sound, or %d are not", count[true], count[false])
	}
}

// TestNothingIsShared changes what goes out, and what came in.
func TestNothingIsShared(t *testing.T) {
	f := sketch.File("f a:int c:bool > b:int=a d:bool=c e:int=a g:int=#0 h:int=#1 | delay int a | @late a" + aside)
	const want = "5 true 5 nil nil | 6 false 6 5 5 | 7 true 7 6 6"
	ins := sketch.Trace("5 true | 6 false | 7 true")
	out, _ := run.Run(f, "f", ins)
	again, _ := run.Run(f, "f", ins)
	for _, l := range ins {
		l[0], l[1] = sem.Of(99), sem.Value{Kind: sem.Err}
	}
	ins[1] = nil
	for i := range f.Diagrams {
		f.Diagrams[i] = diag.Diagram{}
	}
	if sketch.Words(out) != want || sketch.Words(again) != want {
		t.Errorf("R4: %s, %s", sketch.Words(out), sketch.Words(again))
	}
	for _, l := range out {
		_ = append(l, slices.Repeat([]sem.Value{sem.Of(98)}, 9)...)
	}
	_ = append(out[:1:1], nil)
	if sketch.Words(out) != want {
		t.Errorf("R4: with more behind: %s", sketch.Words(out))
	}
	for _, l := range out {
		for j := range l {
			l[j] = sem.Of(97)
		}
	}
	if sketch.Words(again) != want {
		t.Errorf("R4: %s", sketch.Words(again))
	}
}

// behind are lists behind whose ends something stands, which is not theirs.
func behind[T any](l []T, more T) []T {
	return append(slices.Clone(l), more)[:len(l)]
}

func TestBehindLists(t *testing.T) {
	f := sketch.File("f a:int > b:int=#0 c:int=#1 | delay int a | @sum a" + aside)
	d := &f.Diagrams[0]
	d.Ins = behind(d.Ins, diag.Port{Name: "x"})
	d.Outs = behind(d.Outs, diag.Out{From: diag.Source{Port: 7}})
	d.Blocks = behind(d.Blocks, diag.Block{N: 7})
	d.Blocks[1].From = behind(d.Blocks[1].From, diag.Source{Port: 7})
	ins := behind(sketch.Trace("5 | 6"), []sem.Value{sem.Of(7)})
	ins[0] = behind(ins[0], sem.Of(8))
	if out, e := run.Run(f, "f", ins); sketch.Words(out) != "nil 5 | 5 11" || e != api.OK {
		t.Errorf("R4: %s, %d", sketch.Words(out), e)
	}
	if ins[:3][2][0] != sem.Of(7) || ins[0][:2][1] != sem.Of(8) || d.Ins[:2][1].Name != "x" || d.Outs[:3][2].From.Port != 7 || d.Blocks[:3][2].N != 7 || d.Blocks[1].From[:2][1].Port != 7 {
		t.Error("R4: what stands behind a list is changed")
	}
}

func TestNilAndEmpty(t *testing.T) {
	f, o := sketch.File(aside), sketch.File(aside)
	for i := range o.Diagrams {
		d := &o.Diagrams[i]
		d.Ins, d.Blocks = append([]diag.Port{}, d.Ins...), append([]diag.Block{}, d.Blocks...)
		for j := range d.Blocks {
			d.Blocks[j].From = append([]diag.Source{}, d.Blocks[j].From...)
		}
	}
	for _, f := range []diag.File{f, o} {
		for _, ins := range [][][]sem.Value{nil, {}} {
			for _, name := range []string{"sum", "count", "is"} {
				if out, e := run.Run(f, name, ins); len(out) != 0 || e != api.OK {
					t.Errorf("R3: %s: %v, %d", name, out, e)
				}
			}
		}
		for _, ins := range [][][]sem.Value{{nil, nil}, {{}, {}}, {{}, nil}} {
			if out, e := run.Run(f, "count", ins); sketch.Words(out) != "0 | 1" || e != api.OK {
				t.Errorf("R3: %s, %d", sketch.Words(out), e)
			}
			refuses(t, "no value", f, "sum", ins, api.ErrArity)
		}
	}
}

// TestNothingIsKept asks again, with other things asked ahead of it.
func TestNothingIsKept(t *testing.T) {
	f := sketch.File("f a:int > b:int=#0 c:int=#2 | + #1 #2 | @sum #3 | @count | start a #4 | @late a" + aside)
	ins := sketch.Trace("5 | 6 | 7 | 8")
	const want = "5 0 | 11 1 | 18 2 | 26 3"
	for seed := range uint64(200) {
		o, other := anyFile(seed)
		for i, d := range o.Diagrams {
			run.Run(o, d.Name, other[i])
		}
		run.Run(f, "f", sketch.Trace("1 | 2 | true"))
		run.Run(f, "f", sketch.Trace("1 | 2"))
		run.Run(f, "count", sketch.Trace("- | - | -"))
		run.Weight(f, "none")
		if out, e := run.Run(f, "f", ins); sketch.Words(out) != want || e != api.OK {
			t.Fatalf("R6: %s, %d", sketch.Words(out), e)
		}
		if w, e := run.Weight(f, "f"); w != 4 || e != api.OK {
			t.Fatalf("R6: Weight: %d, %d", w, e)
		}
	}
}
