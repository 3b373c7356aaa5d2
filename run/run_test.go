package run_test

import (
	"strconv"
	"strings"
	"testing"

	"shuttlecock/api"
	"shuttlecock/diag"
	"shuttlecock/run"
	"shuttlecock/sem"
	"shuttlecock/sketch"
)

// The calls have the signatures of the document.
var (
	_ func(diag.File, string) (int, api.Errno)                          = run.Weight
	_ func(diag.File, string, [][]sem.Value) ([][]sem.Value, api.Errno) = run.Run
)

// aside are diagrams that those of the tests have as blocks.
const aside = `
sum a:int > b:int=#0 | start a #2 | delay int #0 | + #1 a
count > n:int=#1 | 0 | start #0 #2 | + #3 #4 | delay int #1 | 1
late a:int > b:int=#0 | delay int a
both a:int b:int > c:int=#1 d:int=#0 | - a b | + a b
three a:int b:bool > c:bool=b d:int=#1 e:bool=#0 | delay bool b | @sum a
is a:bool > b:bool=a
`

// beside is the file of a diagram, which stands ahead of those above, or
// behind them.
func beside(text string, behind bool) diag.File {
	if behind {
		return sketch.File(aside + text)
	}
	return sketch.File(text + aside)
}

// runs asks what goes out of the diagram f.
func runs(t *testing.T, text, in, want string) {
	t.Helper()
	for _, behind := range []bool{false, true} {
		out, e := run.Run(beside(text, behind), "f", sketch.Trace(in))
		if got := sketch.Words(out); got != want || e != api.OK {
			t.Errorf("P12.1: %s of %s: %s, %d, not %s", text, in, got, e, want)
		}
	}
}

func TestRun(t *testing.T) {
	for _, c := range []struct{ text, in, want string }{
		// What comes in goes out.
		{"f a:int > b:int=a", "5 | 7 | -1", "5 | 7 | -1"},
		{"f a:bool > b:bool=a", "true | false", "true | false"},
		{"f a:int b:bool c:int > d:bool=b e:int=c f:int=a g:int=c", "1 true 2 | 3 false 4", "true 2 1 2 | false 4 3 4"},
		{"f a:int b:int > c:int=b | neg a | true", "5 6 | 7 8", "6 | 8"},

		// 0 and 1
		{"f > a:int=#0 b:bool=#1 c:bool=#2 d:int=#3 | 7 | true | false | 9223372036854775807", "- | -", "7 true false 9223372036854775807 | 7 true false 9223372036854775807"},
		{"f a:int > b:int=#0 | 0", "5 | 6", "0 | 0"},

		// 4, a delay
		{"f a:int > b:int=#0 | delay int a", "5 | 6 | 7", "nil | 5 | 6"},
		{"f a:bool > b:bool=#0 | delay bool a", "true | false | true", "nil | true | false"},
		{"f a:int > b:int=#0 | delay int #1 | delay int a", "5 | 6 | 7 | 8", "nil | nil | 5 | 6"},
		{"f a:int > b:int=#2 | delay int a | delay int #0 | delay int #1", "5 | 6 | 7 | 8 | 9", "nil | nil | nil | 5 | 6"},
		{"f a:int b:int > c:int=#0 d:int=#1 | delay int b | delay int a", "1 2 | 3 4 | 5 6", "nil nil | 2 1 | 4 3"},
		{"f a:int > b:int=#0 c:int=#2 | delay int #1 | + a a | delay int #0", "5 | 6 | 7", "nil nil | 10 nil | 12 10"},
		{"f > b:int=#0 | delay int #1 | 7", "- | - | -", "nil | 7 | 7"},
		{"f > b:int=#0 | delay int #0", "- | - | -", "nil | nil | nil"},
		{"f > b:int=#0 c:int=#1 | delay int #1 | delay int #0", "- | - | -", "nil nil | nil nil | nil nil"},
		{"f a:int > b:int=#1 | delay int #1 | + a #0", "5 | 6 | 7", "nil | nil | nil"},
		{"f a:int > b:int=#0 | delay int #1 | div a #2 | - a #3 | 6", "5 | 6 | 7 | 8", "nil | -5 | err | 7"},

		// 5, a start
		{"f a:int > b:int=#0 | start a #1 | 1", "5 | 6 | 7", "5 | 1 | 1"},
		{"f a:int > b:int=#0 | start #1 a | 1", "5 | 6 | 7", "1 | 6 | 7"},
		{"f a:int > b:int=#0 | start #1 #2 | 1 | start #3 a | 2", "5 | 6 | 7", "1 | 6 | 7"},
		{"f a:int > b:int=#0 | start #1 a | start #2 #3 | 1 | 2", "5 | 6 | 7", "1 | 6 | 7"},
		{"f a:int > b:int=#0 | start #1 a | div a #2 | 0", "5 | 6", "err | 6"},
		{"f a:int > b:int=#0 | start a #1 | div a #2 | 0", "5 | 6", "5 | err"},
		{"f a:int > b:int=#0 | start #1 a | delay int a", "5 | 6", "nil | 6"},
		{"f a:int > b:int=#0 | start a #1 | delay int #2 | delay int a", "5 | 6 | 7", "5 | nil | 5"},
		{"f a:int > b:int=#1 | 1 | delay int #2 | start #0 a", "5 | 6 | 7", "nil | 1 | 6"},
		{"f a:bool > b:bool=#0 | start #1 a | true", "false | false | true", "true | false | true"},
		{"f a:int > b:int=#2 | delay int #2 | + #0 a | start a #1", "5 | 6 | 7", "5 | 11 | 18"},
		{"f a:int > b:int=#0 | start a #1 | + #2 #3 | delay int #0 | 1", "5 | 0 | 0", "5 | 6 | 7"},
		{"f > b:int=#0 c:int=#1 | start #2 #3 | start #4 #5 | 0 | delay int #1 | 1 | delay int #6 | + #0 #1", "- | - | - | - | - | -", "0 1 | 1 1 | 1 2 | 2 3 | 3 5 | 5 8"},

		// 6, a choice
		{"f c:bool a:int b:int > d:int=#0 | if c a b", "true 1 2 | false 3 4 | true 5 6", "1 | 4 | 5"},
		{"f c:bool a:bool b:bool > d:bool=#0 | if c a b", "true false true | false false true", "false | true"},
		{"f a:int c:bool > b:int=#0 | if c #1 #2 | div a #3 | 1 | 0", "5 false | 5 true", "1 | err"},
		{"f a:int c:bool > b:int=#0 | if c #2 #1 | mod a #3 | 1 | 0", "5 false | 5 true", "err | 1"},
		{"f a:int c:bool > b:int=#0 | if c #1 #2 | delay int a | 1", "5 true | 6 true | 7 false", "nil | 5 | 1"},
		{"f a:int > b:int=#0 | if #1 a a | = #2 a | div a #3 | 0", "5", "err"},
		{"f c:bool > b:int=#0 | if #1 #2 #3 | delay bool c | 1 | 2", "true | false | true", "nil | 1 | 2"},
		{"f a:int c:bool > b:int=#0 | if c #1 #2 | delay int a | 100", "5 false | 6 false | 7 true", "100 | 100 | 6"},

		// No instants.
		{"f a:int > b:int=a", "", ""},
		{"f > b:int=#0 | @count", "", ""},
	} {
		runs(t, c.text, c.in, c.want)
	}
}

// TestOps runs each op, of one and of two.
func TestOps(t *testing.T) {
	const some = "7 2 | -7 2 | 1 0 | -9223372036854775808 -1"
	for op, want := range map[string]string{
		"neg a": "-7 | 7 | -1 | -9223372036854775808", "neg b": "-2 | -2 | 0 | 1",
		"+ a b": "9 | -5 | 1 | 9223372036854775807", "- a b": "5 | -9 | 1 | -9223372036854775807", "- b a": "-5 | 9 | -1 | 9223372036854775807", "* a b": "14 | -14 | 0 | -9223372036854775808",
		"div a b": "3 | -3 | err | -9223372036854775808", "div b a": "0 | 0 | 0 | 0", "mod a b": "1 | -1 | err | 0", "mod b a": "2 | 2 | 0 | -1", "+ a a": "14 | -14 | 2 | 0",
	} {
		runs(t, "f a:int b:int > c:int=#0 | "+op, some, want)
	}
	for op, want := range map[string]string{
		"= a b": "false | true | false", "<> a b": "true | false | true", "< a b": "true | false | false", "<= a b": "true | true | false", "> a b": "false | false | true", ">= a b": "false | true | true",
	} {
		runs(t, "f a:int b:int > c:bool=#0 | "+op, "1 2 | 2 2 | 3 2", want)
	}
	for op, want := range map[string]string{
		"not a": "false | false | true | true", "not b": "false | true | false | true",
		"= a b": "true | false | false | true", "<> a b": "false | true | true | false", "and a b": "true | false | false | false", "or a b": "true | true | true | false", "xor a b": "false | true | true | false",
		"=> a b": "true | false | true | true", "=> b a": "true | true | false | true",
	} {
		runs(t, "f a:bool b:bool > c:bool=#0 | "+op, "true true | true false | false true | false false", want)
	}
	// nil and err, and both.
	const late = " | delay int a | delay bool c | div a #4 | 0 | = #3 a"
	for op, want := range map[string]string{
		"neg #1": "nil | -5 | -6", "+ #1 a": "nil | 11 | 13", "+ a #1": "nil | 11 | 13", "+ #3 #1": "err | err | err", "- #1 #3": "err | err | err", "div #1 #4": "nil | err | err", "mod #3 a": "err | err | err", "start #1 #3": "nil | err | err",
	} {
		runs(t, "f a:int c:bool > b:int=#0 | "+op+late, "5 true | 6 false | 7 true", want)
	}
	for op, want := range map[string]string{
		"not #2": "nil | false | true", "or c #2": "nil | true | true", "and #2 c": "nil | false | false", "=> c #2": "nil | true | false", "< #1 a": "nil | true | true", "= #2 c": "nil | false | false", "or c #5": "err | err | err", "and #2 #5": "err | err | err", "not #5": "err | err | err",
	} {
		runs(t, "f a:int c:bool > b:bool=#0 | "+op+late, "5 true | 6 false | 7 true", want)
	}
}

// TestDiagrams runs blocks that are diagrams, each of which has a past of its
// own.
func TestDiagrams(t *testing.T) {
	for _, c := range []struct{ text, in, want string }{
		{"f a:int > b:int=#0 | @sum a", "5 | 6 | 7", "5 | 11 | 18"},
		{"f a:int > b:int=#0 c:int=#1 | @sum a | @sum #2 | 1", "5 | 6 | 7", "5 1 | 11 2 | 18 3"},
		{"f a:int > b:int=#1 | @sum a | @sum #0", "1 | 1 | 1 | 1", "1 | 3 | 6 | 10"},
		{"f a:int > b:int=#0 | @sum #1 | @sum a", "1 | 1 | 1 | 1", "1 | 3 | 6 | 10"},
		{"f a:int > b:int=#1 | @late #1 | @late a", "5 | 6 | 7", "nil | 5 | 6"},
		{"f a:int > b:int=#0 | @late #1 | @late a", "5 | 6 | 7 | 8", "nil | nil | 5 | 6"},
		{"f > b:int=#0 | + #1 #2 | @count | * #1 #3 | 10", "- | - | -", "0 | 11 | 22"},
		{"f > b:int=#0 | + #1 #2 | @count | @count", "- | - | -", "0 | 2 | 4"},

		// Several results, and not all of them, or none, are used.
		{"f a:int b:int > c:int=#0 d:int=#0.1 | @both a b", "5 3 | 1 2", "8 2 | 3 -1"},
		{"f a:int b:int > c:int=#0.1 d:int=#0 | @both b a", "5 3 | 1 2", "-2 8 | 1 3"},
		{"f a:int > c:int=#2.1 d:int=#2 | 1 | @sum a | @both #1 #0", "5 | 1", "4 6 | 5 7"},
		{"f a:int > c:int=#0.1 d:int=#1.1 | @both a a | @both #0 #0.1", "5 | 1", "0 10 | 0 2"},
		{"f a:int b:bool > c:bool=#0.2 d:int=#0.1 e:bool=#0 | @three a b", "5 true | 6 false | 7 true", "nil 5 true | true 11 false | false 18 true"},
		{"f a:int b:bool > c:bool=#1.2 d:bool=#0 | @three a #1 | @three a b", "5 true | 6 false | 7 true", "nil true | true false | false true"},
		{"f a:int > b:int=a | @count | @sum a", "5 | 6", "5 | 6"},

		// nil and err may be given.
		{"f a:int > b:int=#0 | @sum #1 | delay int a", "5 | 6 | 7", "nil | nil | nil"},
		{"f a:int > b:int=#0 | @sum #1 | start #2 #3 | 0 | delay int a", "5 | 6 | 7", "0 | 5 | 11"},
		{"f a:int > b:int=#0 | @late #1 | div a #2 | - a #3 | 6", "5 | 6 | 7", "nil | -5 | err"},
		{"f a:bool > b:bool=#0 | @is #1 | delay bool a", "true | false", "nil | true"},

		// What is not chosen has its past, too.
		{"f c:bool > b:int=#0 | if c #1 #2 | @count | start #3 #1 | 100", "false | true | false | true | true", "100 | 1 | 2 | 3 | 4"},
		{"f c:bool > b:int=#0 | if c #1 #2 | @count | @count", "false | true | false", "0 | 1 | 2"},
		{"f a:int > b:int=#0 | start #1 #2 | 0 | @sum a", "5 | 6 | 7", "0 | 11 | 18"},

		// Through delays, and from behind.
		{"f a:int > b:int=#0 | delay int #1 | @sum a", "5 | 6 | 7", "nil | 5 | 11"},
		{"f a:int > b:int=#0 | delay int #1 | @sum #2 | start #3 #4 | 0 | delay int #5 | @sum a", "5 | 6 | 7 | 8", "nil | 0 | 5 | 16"},
		{"f > b:int=#2 | @sum #2 | delay int #0 | start #3 #1 | 1", "- | - | - | - | -", "1 | 1 | 2 | 4 | 8"},
	} {
		runs(t, c.text, c.in, c.want)
	}
}

// TestDiagramsOfOneFile runs each of them, in whatever order they stand, and
// whatever stands beside them.
func TestDiagramsOfOneFile(t *testing.T) {
	f := sketch.File(`
		top a:int > b:int=#0 | + #1 #2 | @mid a | @low a
		low a:int > b:int=#0 | start a #1 | delay int a
		mid a:int > b:int=#4 | @low #1 | * a #2 | 10 | @low a | + #0 #5 | @low #3
	`)
	for name, want := range map[string]string{"top": "60 | 60 | 71", "low": "5 | 5 | 6", "mid": "55 | 55 | 65"} {
		out, e := run.Run(f, name, sketch.Trace("5 | 6 | 7"))
		if got := sketch.Words(out); got != want || e != api.OK {
			t.Errorf("P12.1: %s: %s, %d, not %s", name, got, e, want)
		}
	}
}

// TestNested runs diagrams that are blocks of one another, as many as there
// may be: each hands on what it is given an instant later, and 1 more.
func TestNested(t *testing.T) {
	const many = 1000
	var text strings.Builder
	for i := range many {
		text.WriteString(numbered("\nd", i) + " a:int > b:int=#0 | ")
		if i < many-1 {
			text.WriteString(numbered("@d", i+1) + " #1 | + #2 #3 | delay int a | 1")
		} else {
			text.WriteString("neg a")
		}
	}
	f := sketch.File(text.String())
	if w, e := run.Weight(f, "d0"); w != many || e != api.OK {
		t.Errorf("P12.1: Weight: %d, %d", w, e)
	}
	ins := sketch.Trace("1" + strings.Repeat(" | 7", 999))
	for name, want := range map[string]string{"d999": "-1", "d998": "nil", "d0": "nil"} {
		out, e := run.Run(f, name, ins)
		if e != api.OK || len(out) != 1000 || sketch.Words(out[:1]) != want {
			t.Fatalf("P12.1: %s: %d of 1000, %d: %.100s", name, len(out), e, sketch.Words(out))
		}
	}
	out, _ := run.Run(f, "d0", ins)
	if got := sketch.Words(out[998:]); got != "nil | -1000" {
		t.Errorf("P12.1: at last %s", got)
	}
	out, _ = run.Run(f, "d1", ins)
	if got := sketch.Words(out[997:]); got != "nil | -999 | -1005" {
		t.Errorf("P12.1: at last %s", got)
	}
}

// TestWide hands much on at once: all that comes in goes out turned, and, of
// that, turned again.
func TestWide(t *testing.T) {
	const many = 330
	ins, once, twice, given, turned, in := "", "", "", "", "", ""
	for i := range many {
		j := many - 1 - i
		ins += numbered(" a", i) + ":int"
		once += numbered(" b", i) + numbered(":int=a", j)
		twice += numbered(" c", i) + numbered(":int=#1.", i)
		given += numbered(" a", i)
		turned += numbered(" #0.", i)
		in += numbered(" ", i*i)
	}
	f := sketch.File("f" + ins + " > " + twice + " | @turn " + given + " | @turn " + turned + "\n turn" + ins + " > " + once)
	in = strings.TrimSpace(in)
	if out, e := run.Run(f, "f", sketch.Trace(in+" | "+in)); sketch.Words(out) != in+" | "+in || e != api.OK {
		t.Errorf("P12.1: %.300s, %d", sketch.Words(out), e)
	}
}

// TestLong runs as many blocks as there may be, each of which hangs on the one
// behind it, at once or through a delay.
func TestLong(t *testing.T) {
	const many = 998
	sums, delays := "f a:int > b:int=#0", "f a:int > b:int=#0"
	for i := range many {
		sums += numbered(" | + a #", i+1)
		delays += numbered(" | delay int #", i+1)
	}
	runs(t, sums+" | neg a", "1 | 5", "997 | 4985")
	in, want := "0", "nil"
	for i := 1; i < 1000; i++ {
		in += numbered(" | ", i)
		if i < many {
			want += " | nil"
		} else {
			want += numbered(" | ", many-i)
		}
	}
	runs(t, delays+" | neg a", in, want)
}

// numbered is a text with a number behind it.
func numbered(text string, i int) string {
	return text + strconv.Itoa(i)
}
