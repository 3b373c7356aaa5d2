package run_test

import (
	"strings"
	"testing"

	"shuttlecock/api"
	"shuttlecock/diag"
	"shuttlecock/run"
	"shuttlecock/sem"
	"shuttlecock/sketch"
)

// wrongs are files of which nothing is told, by their errors.
func wrongs() map[api.Errno]diag.File {
	all := map[api.Errno]diag.File{}
	for e, text := range map[api.Errno]string{
		api.ErrName:   "f a:int > a:int=#0 | @sum a",
		api.ErrDefine: "f a:int \n g > b:int=#0 | 1",
		api.ErrRange:  "f > b:int=#0" + strings.Repeat(" | 1", 1001),
		api.ErrArity:  "f a:int > b:int=#0 | @sum a a",
		api.ErrCycle:  "f a:int > b:int=#0 | + a #0",
		api.ErrType:   "f a:int > b:bool=a",
		api.ErrArg:    "f a:int > b:int=#7",
	} {
		all[e] = sketch.File(text + aside)
	}
	return all
}

// refuses asks for nothing and that error.
func refuses(t *testing.T, what string, f diag.File, name string, ins [][]sem.Value, want api.Errno) {
	t.Helper()
	if out, e := run.Run(f, name, ins); out != nil || e != want {
		t.Errorf("P12.1: Run: %s: %s, %d, not %d", what, sketch.Words(out), e, want)
	}
}

func TestWrongFiles(t *testing.T) {
	for want, f := range wrongs() {
		for _, name := range []string{"f", "sum", "none", ""} {
			if w, e := run.Weight(f, name); w != 0 || e != want {
				t.Errorf("P12.1: Weight(%q): %d, %d, not %d", name, w, e, want)
			}
			for _, ins := range [][][]sem.Value{nil, sketch.Trace("1"), sketch.Trace("true"), make([][]sem.Value, 1001)} {
				refuses(t, name, f, name, ins, want)
			}
		}
	}
	// The file is asked about as a whole, and a circle of diagrams last.
	circle := sketch.File("f > b:int=#0 | @g \n g > b:int=#0 | @f" + aside)
	for _, name := range []string{"f", "sum", "none"} {
		if w, e := run.Weight(circle, name); w != 0 || e != api.ErrCycle {
			t.Errorf("P12.1: Weight(%q): %d, %d", name, w, e)
		}
		refuses(t, name, circle, name, nil, api.ErrCycle)
	}
}

func TestNoSuchDiagram(t *testing.T) {
	for _, f := range []diag.File{{}, {Diagrams: []diag.Diagram{}}, sketch.File(aside), heavy(10001)} {
		for _, name := range []string{"", "none", "Sum", "sum ", "su", "a", "b", "node", "F", "\xff", strings.Repeat("x", 1<<16)} {
			if w, e := run.Weight(f, name); w != 0 || e != api.ErrName {
				t.Errorf("P12.1: Weight(%.50q): %d, %d", name, w, e)
			}
			refuses(t, "no such diagram", f, name, nil, api.ErrName)
			refuses(t, "no such diagram", f, name, make([][]sem.Value, 1001), api.ErrName)
		}
	}
}

// TestWhatComesIn asks for what may not come in, instant by instant.
func TestWhatComesIn(t *testing.T) {
	f := sketch.File("f a:int b:bool > c:int=#0 | if b a #1 | neg a \n none > c:int=#0 | 1")
	for in, want := range map[string]api.Errno{
		"1 true": api.OK, "1 true | 2 false": api.OK, "-9223372036854775808 false": api.OK,

		"-": api.ErrArity, "1": api.ErrArity, "1 true 1": api.ErrArity, "true": api.ErrArity, "nil": api.ErrArity, "1 true | 1": api.ErrArity, "1 true | 1 true | -": api.ErrArity, "1 true | 1 true true | 1 true": api.ErrArity,

		"1 1": api.ErrType, "true true": api.ErrType, "true 1": api.ErrType, "1 true | false 2": api.ErrType, "1 true | 2 true | 3 0": api.ErrType,
		"nil true": api.ErrType, "1 nil": api.ErrType, "err true": api.ErrType, "1 err": api.ErrType, "1 true | nil false": api.ErrType,

		// The first instant that is wrong counts, and its number first.
		"1 1 | 1": api.ErrType, "1 | 1 1": api.ErrArity, "1 true | nil nil | -": api.ErrType, "1 true | - | nil nil": api.ErrArity, "true 1 true": api.ErrArity,
	} {
		if want == api.OK {
			if out, e := run.Run(f, "f", sketch.Trace(in)); e != api.OK || len(out) != strings.Count(in, "|")+1 {
				t.Errorf("P12.1: Run: %s: %s, %d", in, sketch.Words(out), e)
			}
			continue
		}
		refuses(t, in, f, "f", sketch.Trace(in), want)
	}
	refuses(t, "a value, and no in-port", f, "none", sketch.Trace("- | 1"), api.ErrArity)
	refuses(t, "nil, and no in-port", f, "none", sketch.Trace("nil"), api.ErrArity)
	for _, v := range []sem.Value{{Kind: sem.Bool, N: 2}, {Kind: sem.Bool, N: -1}, {Kind: 4}, {Kind: -1}, {Kind: 1 << 40, N: 1}, {Kind: sem.Nil, N: 1}, {Kind: sem.Err, N: 1}} {
		refuses(t, "no value", f, "f", [][]sem.Value{{sem.Of(1), v}}, api.ErrType)
		refuses(t, "no value", f, "f", [][]sem.Value{{v, sem.Truth(true)}}, api.ErrType)
	}
}

// TestInstants asks about the number of instants, which counts ahead of what
// comes in.
func TestInstants(t *testing.T) {
	f := sketch.File("f a:int > b:int=#0 | delay int a")
	ins := make([][]sem.Value, 1002)
	for i := range ins {
		ins[i] = []sem.Value{sem.Of(int64(i))}
	}
	out, e := run.Run(f, "f", ins[:1000])
	if e != api.OK || len(out) != 1000 || out[0][0] != (sem.Value{}) || out[999][0] != sem.Of(998) {
		t.Errorf("P12.1: of 1000 instants: %d, %d", len(out), e)
	}
	refuses(t, "1001 instants", f, "f", ins[:1001], api.ErrRange)
	refuses(t, "1002 instants", f, "f", ins, api.ErrRange)
	ins[0], ins[5] = nil, sketch.Trace("true")[0]
	refuses(t, "1000 instants, the first without a value", f, "f", ins[:1000], api.ErrArity)
	refuses(t, "1001 instants, the first without a value", f, "f", ins[:1001], api.ErrRange)
	ins[0] = ins[5]
	refuses(t, "1000 instants, the first of another type", f, "f", ins[:1000], api.ErrType)
	refuses(t, "1001 instants, the first of another type", f, "f", ins[:1001], api.ErrRange)
	refuses(t, "a great weight, and one of another type", heavy(10001), "f", ins[:1], api.ErrRange)
}
