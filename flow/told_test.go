package flow_test

import (
	"math"
	"slices"
	"strconv"
	"strings"
	"testing"

	"shuttlecock/api"
	"shuttlecock/diag"
	"shuttlecock/flow"
	"shuttlecock/sketch"
)

// types are those of a text that is sound.
func types(t *testing.T, text string) *flow.Types {
	t.Helper()
	x, e := flow.Check(sketch.File(text))
	if e != api.OK {
		t.Fatalf("P11.1: %.300s: %d", text, e)
	}
	return x
}

func TestOf(t *testing.T) {
	x := types(t, `
f a:int c:bool > b:int=#0 | if c #1 #2.1 | 7 | @g a #3 | false | not #3 | = #1 a | + a a | delay bool #8 | start #7 c | delay int #1
g a:int c:bool > b:bool=c d:int=a e:bool=c
`)
	const i, b = 0, 1
	want := []map[diag.Source]int{{
		{Block: -1}: i, {Block: -1, Port: 1}: b,
		{}: i, {Block: 1}: i, {Block: 2}: b, {Block: 2, Port: 1}: i, {Block: 2, Port: 2}: b, {Block: 3}: b, {Block: 4}: b,
		{Block: 5}: b, {Block: 6}: i, {Block: 7}: b, {Block: 8}: b, {Block: 9}: i,
	}, {
		{Block: -1}: i, {Block: -1, Port: 1}: b,
	}}
	numbers := []int{math.MinInt, -2, -1, 0, 1, 2, 3, 4, 5, 6, 7, 8, 9, 10, 11, math.MaxInt}
	for _, d := range numbers {
		for _, block := range numbers {
			for _, port := range numbers {
				s := diag.Source{Block: block, Port: port}
				kind, is := 0, false
				if d == 0 || d == 1 {
					kind, is = want[d][s]
				}
				if got, known := x.Of(d, s); got != kind || known != is {
					t.Errorf("P11.2: Of(%d, %v): %d, %t", d, s, got, known)
				}
			}
		}
	}
}

func TestFind(t *testing.T) {
	x := types(t, "f > a:int=#0 | 1 \n g > a:int=#0 | @h \n a2 > a:int=#0 | 1 \n h > g1:int=#0 | 1")
	for name, want := range map[string]int{"f": 0, "g": 1, "a2": 2, "h": 3, "": -1, "x": -1, "a": -1, "F": -1, "node": -1, "g1": -1, "a22": -1} {
		if got, is := x.Find(name); is != (want >= 0) || got != max(want, 0) {
			t.Errorf("P11.2: Find(%q): %d, %t", name, got, is)
		}
	}
}

// joined are numbers as words.
func joined(l []int) string {
	var all []string
	for _, i := range l {
		all = append(all, strconv.Itoa(i))
	}
	return strings.Join(all, " ")
}

func TestOrder(t *testing.T) {
	for text, want := range map[string]string{
		"f a:int > b:int=a":                                                      "",
		"f a:int > b:int=#0 | neg a":                                             "0",
		"f a:int > b:int=#0 | neg #1 | neg a":                                    "1 0",
		"f a:int > b:int=#0 | neg #1 | delay int #0":                             "1 0",
		"f a:int > b:int=#0 | delay int #1 | neg #0":                             "0 1",
		"f a:int > b:int=#0 | delay int #1 | 1":                                  "0 1",
		"f a:int > b:int=#0 | delay int #1 | delay int #2 | 1":                   "0 1 2",
		"f a:int > b:int=#0 | + #2 #2 | neg a | + #1 #1":                         "1 2 0",
		"f a:int > b:int=#0 | neg #4 | neg a | neg #1 | neg a | neg #3":          "1 2 3 4 0",
		"f a:int > b:int=#0 | neg #3 | neg #0 | neg a | 1":                       "2 3 0 1",
		"f a:int > b:int=#0 | 1 | neg #3 | neg #0 | neg #0 | neg #1":             "0 2 3 1 4",
		"f a:int > b:int=#0 | @g #2 #1.1 | @g a a | start a a \n" + twice:        "1 2 0",
		"f a:int > b:int=#0 | start #2 #1 | 5 | neg #1":                          "1 2 0",
		"f a:int c:bool > b:int=#0 | if #3 #1 #2 | neg #2 | 1 | not c":           "2 1 3 0",
		"f a:int > b:int=#0 | @g a #2 | delay int #0.1 | + #1 #3 | 1 \n" + twice: "1 3 2 0",
	} {
		x := types(t, text)
		if got := joined(x.Order(0)); got != want {
			t.Errorf("P11.2: %s: %s, not %s", text, got, want)
		}
		for _, none := range []int{math.MinInt, -1, 2, math.MaxInt} {
			if got := x.Order(none); len(got) != 0 {
				t.Errorf("P11.2: Order(%d): %v", none, got)
			}
		}
	}
}

// twice is a diagram of two Ins and two Outs.
const twice = "g a:int b:int > c:int=a d:int=b"

// having is a file of diagrams d0, d1, and so on, each of which has others as
// blocks.
func having(t *testing.T, all ...[]int) diag.File {
	t.Helper()
	text := ""
	for i, subs := range all {
		text += "d" + strconv.Itoa(i) + " > a:int=#0 | 1"
		for _, j := range subs {
			text += " | @d" + strconv.Itoa(j)
		}
		text += "\n"
	}
	return sketch.File(text)
}

func TestDiagrams(t *testing.T) {
	for want, all := range map[string][][]int{
		"":                {},
		"0":               {{}},
		"0 1 2":           {{}, {}, {}},
		"1 0":             {{1}, {}},
		"0 1":             {{}, {0, 0, 0}},
		"2 1 0":           {{1, 2}, {2}, {}},
		"1 2 0 3":         {{2}, {}, {1}, {}},
		"1 2 3 0":         {{3}, {}, {1}, {2, 1, 2}},
		"1 3 0 2 4":       {{3, 1}, {}, {0}, {1}, {2, 2}},
		"2 4 0 1 3":       {{2, 4}, {0}, {}, {4, 1}, {2}},
		"5 4 3 2 1 0":     {{1}, {2}, {3}, {4}, {5}, {}},
		"1 0 3 2 5 4":     {{1, 1}, {}, {3}, {}, {5}, {}},
		"3 0 4 1 5 2 6 7": {{3}, {4}, {5}, {}, {}, {}, {0, 1, 2}, {6}},
	} {
		f := having(t, all...)
		x, e := flow.Check(f)
		if e != api.OK {
			t.Fatalf("P11.1: %v: %d", all, e)
		}
		if got := joined(x.Diagrams()); got != want {
			t.Errorf("P11.2: %v: %s, not %s", all, got, want)
		}
	}
}

// TestMany asks of as much as there may be: a thousand diagrams, each of which
// has one behind it, or, of the last ones, as many blocks as there may be, each
// of which hangs on one behind it.
func TestMany(t *testing.T) {
	const many = 1000
	var f diag.File
	var want []int
	for i := range many {
		d := diag.Diagram{Name: "d" + strconv.Itoa(i), Outs: outs(1), Blocks: ints(1)}
		if i < many-1 {
			d.Blocks = append(d.Blocks, subs(i+1, 10, 0)...)
		}
		f.Diagrams = append(f.Diagrams, d)
		want = append(want, many-1-i)
	}
	last := &f.Diagrams[many-1]
	last.Blocks = nil
	for i := range many - 2 {
		last.Blocks = append(last.Blocks, diag.Block{Kind: diag.Bin, Op: 11, From: slices.Repeat([]diag.Source{{Block: i + 1}}, 2)})
	}
	last.Blocks = append(last.Blocks, diag.Block{N: 1})
	x, e := flow.Check(f)
	if e != api.OK {
		t.Fatalf("P11.1: %d", e)
	}
	if got := x.Diagrams(); !slices.Equal(got, want) {
		t.Errorf("P11.2: Diagrams: %v", got)
	}
	if got := x.Order(many - 1); !slices.Equal(got, want[1:]) {
		t.Errorf("P11.2: Order: %v", got)
	}
	if kind, is := x.Of(many-1, diag.Source{Block: many - 2}); kind != 0 || !is {
		t.Errorf("P11.2: Of: %d, %t", kind, is)
	}
	f.Diagrams[many-1].Blocks[0] = diag.Block{Kind: diag.Sub, Sub: 0}
	answers(t, "a circle of a thousand", f, api.ErrCycle)
}
