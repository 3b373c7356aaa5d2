package flow_test

import (
	"strconv"
	"strings"
	"testing"

	"shuttlecock/api"
	"shuttlecock/diag"
	"shuttlecock/flow"
	"shuttlecock/sketch"
)

// The calls have the signatures of the document.
var (
	_ func(diag.File) (*flow.Types, api.Errno) = flow.Check
	_ interface {
		Of(diagram int, s diag.Source) (int, bool)
		Find(name string) (int, bool)
		Order(diagram int) []int
		Diagrams() []int
	} = new(flow.Types)
)

// twos are the ops of two, by their numbers.
var twos = strings.Fields("-> => or xor and = <> < <= > >= + - * div mod")

// answers tells whether of a file that error is answered, and of all others
// its types.
func answers(t *testing.T, what string, f diag.File, want api.Errno) {
	t.Helper()
	if x, e := flow.Check(f); e != want || (x == nil) != (want != api.OK) {
		t.Errorf("P11.1: %.300s: Check answers %v, %d, not %d", what, x != nil, e, want)
	}
}

// asked is a text, and its error.
type asked struct {
	text string
	e    api.Errno
}

// holds asks of a text, alone, with a sound diagram ahead of it, and with one
// behind it.
func (a asked) holds(t *testing.T) {
	t.Helper()
	const beside = "\nbeside a:int > b:int=a\n"
	for _, text := range []string{a.text, beside + a.text, a.text + beside} {
		f := sketch.File(text)
		if !f.Right() {
			t.Errorf("%s: not right", text)
		}
		answers(t, text, f, a.e)
	}
}

func TestNames(t *testing.T) {
	long := strings.Repeat("x", 60)
	for _, a := range []asked{
		{"f > b:int=#0 | 1", api.OK},
		{"f a:int > b:int=a", api.OK},
		{"f f:int > b:int=f", api.OK},
		{"f a:int > f:int=a", api.OK},
		{"f a:int > A:int=a", api.OK},
		{"f a:int > b:int=a \n g a:int > b:int=a", api.OK},
		{"f a:int > b:int=a \n F a:int > b:int=a", api.OK},
		{"f g:int > b:int=g \n g f:int > b:int=f", api.OK},
		{"w0 w1:int w2:int > w3:int=w2 _:int=w1", api.OK},
		{long + " " + long + ":int > b:int=" + long, api.OK},

		{"1 a:int > b:int=a", api.ErrName},
		{"node a:int > b:int=a", api.ErrName},
		{"a-b a:int > b:int=a", api.ErrName},
		{long + "x a:int > b:int=a", api.ErrName},
		{"f 1:int > b:int=1", api.ErrName},
		{"f a:int pre:bool > b:int=a", api.ErrName},
		{"f a:int " + long + "x:bool > b:int=a", api.ErrName},
		{"f a:int é:bool c:int > b:int=a", api.ErrName},
		{"f a:int > if:int=a", api.ErrName},
		{"f a:int > b:int=a 0:int=a", api.ErrName},
		{"f :int > b:int=", api.ErrName},
		{"f a:int > :int=a", api.ErrName},

		{"f a:int > b:int=a \n f a:int > b:int=a", api.ErrName},
		{"f a:int > b:int=a \n g > b:int=#0 | 1 \n f > c:int=#0 | 1", api.ErrName},
		{"f a:int a:int > b:int=a", api.ErrName},
		{"f a:int b:int a:bool > c:int=a", api.ErrName},
		{"f a:int > b:int=a b:int=a", api.ErrName},
		{"f a:int > b:int=a c:int=a b:int=a", api.ErrName},
		{"f a:int > a:int=a", api.ErrName},
		{"f a:int c:int > b:int=a c:int=a", api.ErrName},
	} {
		a.holds(t)
	}
	for i := range 2 {
		f := sketch.File("f a:int > b:int=a \n g a:int > b:int=a")
		f.Diagrams[i].Name = ""
		answers(t, "a diagram without a name", f, api.ErrName)
	}
}

func TestOutsAndSources(t *testing.T) {
	for _, a := range []asked{
		{"f", api.ErrDefine},
		{"f a:int", api.ErrDefine},
		{"f a:int | + a a", api.ErrDefine},
		{"f a:int > b:int=a \n g a:int", api.ErrDefine},
		{"f > b:int=#0 | 1 | @g \n g", api.ErrDefine},

		{"f > b:int=#0 | @g \n g > b:int=#0 | 1", api.OK},
		{"f a:int > b:int=#0 | @g a \n g a:int > b:int=a", api.OK},
		{"f a:int > b:int=#0.2 | @g a a a \n g a:int b:int c:int > x:int=a y:int=b z:int=c", api.OK},
		{"f a:int > b:int=#0 | @g a \n g > b:int=#0 | 1", api.ErrArity},
		{"f a:int > b:int=#0 | @g \n g a:int > b:int=a", api.ErrArity},
		{"f a:int > b:int=#0 | @g a a \n g a:int > b:int=a", api.ErrArity},
		{"g a:int b:int > c:int=a \n f a:int > b:int=#1 | @g a a | @g a", api.ErrArity},
		{"f a:int > b:int=a | @f \n", api.ErrArity},
	} {
		a.holds(t)
	}
}

func TestCircles(t *testing.T) {
	const beside = "\n g a:int > b:int=a \n h c:bool a:int > b:int=#0 d:bool=c | delay int a \n"
	for _, a := range []asked{
		{"f > b:int=#0 | delay int #0", api.OK},
		{"f a:int > b:int=#0 | + a #1 | delay int #0", api.OK},
		{"f a:int > b:int=#1 | delay int #1 | + a #0", api.OK},
		{"f > b:int=#0 | delay int #1 | delay int #0", api.OK},
		{"f a:int > b:int=#0 | + #1 #1 | + #2 #2 | + a a", api.OK},
		{"f a:int > b:int=#0 | start a #1 | @g #2 | delay int #0" + beside, api.OK},
		{"f a:int c:bool > b:int=#0 | @h #1.1 #2 | @h c a | delay int #0" + beside, api.OK},

		{"f > b:int=#0 | neg #0", api.ErrCycle},
		{"f > b:bool=#0 | not #0", api.ErrCycle},
		{"f a:int > b:int=#0 | + a #0", api.ErrCycle},
		{"f a:int > b:int=#0 | + #0 a", api.ErrCycle},
		{"f a:int > b:int=a | + #0 #0", api.ErrCycle},
		{"f a:int > b:int=#0 | start a #0", api.ErrCycle},
		{"f a:int > b:int=#0 | start #0 a", api.ErrCycle},
		{"f a:int c:bool > b:int=#0 | if c a #0", api.ErrCycle},
		{"f a:int c:bool > b:int=#0 | if c #0 a", api.ErrCycle},
		{"f a:bool c:bool > b:bool=#0 | if #0 a a", api.ErrCycle},
		{"f a:int > b:int=#0 | neg #1 | neg #0", api.ErrCycle},
		{"f a:int > b:int=a | 1 | neg #2 | neg #3 | + a #1", api.ErrCycle},
		{"f a:int > b:int=#1 | delay int #1 | + #0 #2 | neg #1", api.ErrCycle},
		{"f a:int > b:int=#0 | @g #0" + beside, api.ErrCycle},
		{"f a:int > b:int=#0 | @g #1 | @g #0" + beside, api.ErrCycle},
		// Whatever the diagram does with it.
		{"f c:bool > b:int=#0 | @h c #0" + beside, api.ErrCycle},
		{"f a:int > b:int=#0 | @h #0.1 a" + beside, api.ErrCycle},
	} {
		a.holds(t)
	}
	for _, many := range []int{2, 10, 900} {
		var blocks []string
		for i := range many {
			blocks = append(blocks, "| neg #"+strconv.Itoa((i+1)%many))
		}
		circle := strings.Join(blocks, " ")
		answers(t, "a great circle", sketch.File("f a:int > b:int=a "+circle), api.ErrCycle)
		cut := strings.Replace(circle, "neg", "delay int", 1)
		answers(t, "a great circle with a delay", sketch.File("f a:int > b:int=a "+cut), api.OK)
	}
}

func TestCirclesOfDiagrams(t *testing.T) {
	for _, a := range []asked{
		{"f a:int > b:int=#0 | @g a \n g a:int > b:int=#0 | @h a \n h a:int > b:int=a", api.OK},
		{"h a:int > b:int=a \n g a:int > b:int=#0 | @h a \n f a:int > b:int=#1 | @g a | @h a | @g a", api.OK},
		{"f a:int > b:int=#0 | @f a", api.ErrCycle},
		{"f a:int > b:int=a | @f a", api.ErrCycle},
		{"f a:int > b:int=a | delay int #1 | @f #0", api.ErrCycle},
		{"f a:int > b:int=a | @g a \n g a:int > b:int=a | @f a", api.ErrCycle},
		{"h a:int > b:int=a | @g a \n f a:int > b:int=a | @g a \n g a:int > b:int=a | @f a", api.ErrCycle},
		{"f a:int > b:int=a | @g a \n g a:int > b:int=a | @h a \n h a:int > b:int=a | 1 | 2 | @f a", api.ErrCycle},
		{"f a:int > b:int=a | @g a \n g a:int > b:int=a | @g a", api.ErrCycle},
	} {
		a.holds(t)
	}
}
