package run_test

import (
	"slices"
	"strconv"
	"strings"
	"testing"

	"shuttlecock/api"
	"shuttlecock/diag"
	"shuttlecock/run"
	"shuttlecock/sem"
	"shuttlecock/sketch"
)

func TestWeight(t *testing.T) {
	for text, want := range map[string]int{
		"f a:int > b:int=a": 1,
		"f a:int > b:int=#0 | + a #1 | delay int #2 | neg a":                   1,
		"f a:int > b:int=#0 | @sum a":                                          2,
		"f a:int > b:int=a | @sum a":                                           2,
		"f a:int > b:int=#1 | @sum a | @sum a":                                 3,
		"f a:int > b:int=#0 | delay int #1 | @sum #0 | @count":                 3,
		"f a:int b:bool > c:int=#0.1 | @three a b":                             3,
		"f a:int b:bool > c:int=#0.1 | @three a b | @sum a | @is b":            5,
		"f > b:int=#0 | 1" + strings.Repeat(" | @count", 50):                   51,
		"f > b:int=#0 | @g | @g \n g > b:int=#1 | @count | @count":             7,
		"f > b:int=#0 | @g | @h \n g > b:int=#0 | @h \n h > b:int=#0 | @count": 6,
	} {
		for _, behind := range []bool{false, true} {
			if got, e := run.Weight(beside(text, behind), "f"); got != want || e != api.OK {
				t.Errorf("P12.1: Weight: %s: %d, %d, not %d", text, got, e, want)
			}
		}
	}
	f := sketch.File(aside)
	for name, want := range map[string]int{"sum": 1, "count": 1, "three": 2, "is": 1} {
		if got, e := run.Weight(f, name); got != want || e != api.OK {
			t.Errorf("P12.1: Weight: %s: %d, %d, not %d", name, got, e, want)
		}
	}
}

// subs are that diagram as blocks, so often.
func subs(many, number int) []diag.Block {
	return slices.Repeat([]diag.Block{{Kind: diag.Sub, Sub: number}}, many)
}

// heavy is a file whose diagram f has that weight: it has ninety, which has
// 91, as often as may be, and what is left of the leaf, which has 1. Each leaf
// counts its instants.
func heavy(weight int) diag.File {
	f := sketch.File("leaf > a:int=#0 | start #1 #2 | 1 | + #1 #3 | delay int #0 \n ninety > a:int=#0 \n f > a:int=#0")
	f.Diagrams[1].Blocks = append([]diag.Block{{N: 5}}, subs(90, 0)...)
	f.Diagrams[2].Blocks = slices.Concat([]diag.Block{{N: 7}}, subs((weight-1)/91, 1), subs((weight-1)%91, 0))
	f.Diagrams[2].Outs[0].From.Block = len(f.Diagrams[2].Blocks) - 1
	return f
}

// TestGreatWeight asks for weights about the greatest one that is told, which
// is the first that is not run.
func TestGreatWeight(t *testing.T) {
	for _, n := range []int{1, 2, 91, 92, 93, 5000, 9999, 10000, 10001, 10002, 10010, 10011, 10012, 20000} {
		f := heavy(n)
		if got, e := run.Weight(f, "f"); got != min(n, 10001) || e != api.OK {
			t.Errorf("P12.1: Weight: %d, %d, not %d", got, e, min(n, 10001))
		}
		out, e := run.Run(f, "f", sketch.Trace("- | -"))
		if n <= 10000 && (e != api.OK || len(out) != 2) || n > 10000 && (e != api.ErrRange || out != nil) {
			t.Errorf("P12.1: of the weight %d: %s, %d", n, sketch.Words(out), e)
		}
		if out, e := run.Run(f, "ninety", sketch.Trace("- | -")); e != api.OK || sketch.Words(out) != "5 | 5" {
			t.Errorf("P12.1: beside the weight %d: %s, %d", n, sketch.Words(out), e)
		}
		if out, e := run.Run(f, "f", nil); n > 10000 && (e != api.ErrRange || out != nil) {
			t.Errorf("P12.1: of the weight %d, and no instants: %v, %d", n, out, e)
		}
	}
}

// TestDoubledWeight asks of diagrams each of which has the one ahead of it
// twice.
func TestDoubledWeight(t *testing.T) {
	text, want := "n0 > a:int=#0 | 1", 1
	for i := range 200 {
		before := "@n" + strconv.Itoa(i)
		text += "\n n" + strconv.Itoa(i+1) + " > a:int=#2 | " + before + " | " + before + " | + #0 #1"
	}
	f := sketch.File(text)
	for i := range 201 {
		name := numbered("n", i)
		if got, e := run.Weight(f, name); got != want || e != api.OK {
			t.Fatalf("P12.1: Weight: %s: %d, %d, not %d", name, got, e, want)
		}
		out, e := run.Run(f, name, sketch.Trace("-"))
		if want > 10000 && (out != nil || e != api.ErrRange) || want <= 10000 && (sketch.Words(out) != strconv.Itoa(1<<i) || e != api.OK) {
			t.Fatalf("P12.1: %s: %v, %d", name, out, e)
		}
		want = min(2*want+1, 10001)
	}
}

// TestMuch runs as much as may be run.
func TestMuch(t *testing.T) {
	f := heavy(10000)
	out, e := run.Run(f, "f", make([][]sem.Value, 1000))
	if e != api.OK || len(out) != 1000 {
		t.Fatalf("P12.1: %d of 1000, %d", len(out), e)
	}
	for i, l := range out {
		if len(l) != 1 || l[0] != sem.Of(int64(i+1)) {
			t.Fatalf("P12.1: at %d: %v", i, l)
		}
	}
	if out, e := run.Run(f, "f", make([][]sem.Value, 1001)); e != api.ErrRange || out != nil {
		t.Errorf("P12.1: of 1001 instants: %d, %d", len(out), e)
	}
}
