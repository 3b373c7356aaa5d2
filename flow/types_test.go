package flow_test

import (
	"strings"
	"testing"

	"shuttlecock/api"
	"shuttlecock/sketch"
)

// takes are, by letters, which sources a block may have, and what it is then.
var takes = map[string]string{
	"5": ">i", "0": ">i", "true": ">b", "false": ">b",
	"neg": "i>i", "not": "b>b", "delay int": "i>i", "delay bool": "b>b",
	"start": "ii>i bb>b", "if": "bii>i bbb>b",
	"=>": "bb>b", "or": "bb>b", "xor": "bb>b", "and": "bb>b",
	"=": "ii>b bb>b", "<>": "ii>b bb>b",
	"<": "ii>b", "<=": "ii>b", ">": "ii>b", ">=": "ii>b",
	"+": "ii>i", "-": "ii>i", "*": "ii>i", "div": "ii>i", "mod": "ii>i",
	"@none": ">b", "@one": "b>i", "@two": "ib>b", "@three": "bii>i",
}

// others are diagrams with those Ins and an Out of that type.
const others = `
none > y:bool=#0 | true
one a:bool > y:int=#0 | 1
two a:int b:bool > y:bool=b
three a:bool b:int c:int > y:int=c
pair a:int > y:bool=#0 z:int=a | true
`

// words of so many letters i and b are all that there are.
func words(many int) []string {
	if many == 0 {
		return []string{""}
	}
	var all []string
	for _, s := range words(many - 1) {
		all = append(all, s+"i", s+"b")
	}
	return all
}

// name is the type of a letter.
func name(letter string) string {
	return map[string]string{"i": "int", "b": "bool"}[letter]
}

// TestEachBlock gives each block sources of all types, which come from
// in-ports, or from other blocks, and hands it out as of both types.
func TestEachBlock(t *testing.T) {
	from := []map[rune]string{{'i': "a", 'b': "c"}, {'i': "#1", 'b': "#2"}, {'i': "#3.1", 'b': "#3"}, {'i': "#4", 'b': "#5"}, {'i': "#6", 'b': "#7"}}
	const rest = " | 7 | false | @pair a | delay int #1 | delay bool c | start #1 #3.1 | if c #2 #5"
	sound := 0
	for b, all := range takes {
		many := strings.Index(all, ">")
		for _, s := range words(many) {
			for _, is := range []string{"i", "b"} {
				want := api.ErrType
				for _, one := range strings.Fields(all) {
					if one == s+">"+is {
						want = api.OK
						sound++
					}
				}
				for i, by := range from {
					text := b
					for j, letter := range s {
						if i > 0 && j > 0 {
							by = from[(i+j)%len(from)]
						}
						text += " " + by[letter]
					}
					text = "f a:int c:bool > out:" + name(is) + "=#0 | " + text + rest + others
					answers(t, text, sketch.File(text), want)
				}
			}
		}
	}
	if want := 4 + 4 + 4 + 4 + 4 + 4 + 5 + 4; sound != want {
		t.Errorf("%d are sound, not %d", sound, want)
	}
}

func TestTypes(t *testing.T) {
	for _, a := range []asked{
		{"f a:int c:bool > b:int=a d:bool=c", api.OK},
		{"f a:int c:bool > b:bool=a d:bool=c", api.ErrType},
		{"f a:int c:bool > b:int=a d:int=c", api.ErrType},
		{"f a:int c:bool > b:int=a | + a a | + a c", api.ErrType},
		{"f a:int c:bool > b:int=a | + c c | + a a", api.ErrType},
		{"f a:int c:bool > b:int=a | + #1 a | not c", api.ErrType},
		{"f a:int c:bool > b:int=#0 | + #1 a | if c #2 a | 5", api.OK},
		{"f a:int c:bool > b:int=#0 | + #1 a | if c #2 a | true", api.ErrType},

		// What a delay is does not hang on its source, but is asked of it.
		{"f > b:bool=#0 | delay bool #0", api.OK},
		{"f > b:int=#0 | delay bool #0", api.ErrType},
		{"f a:int > b:bool=#0 | delay bool a", api.ErrType},
		{"f a:int > b:int=a | delay bool #1 | delay int #0", api.ErrType},
		{"f a:int > b:int=#2 | delay int #2 | delay bool #3 | + a #0 | < a #0", api.OK},
		{"f a:int > b:int=#2 | delay int #3 | delay bool #3 | + a #0 | < a #0", api.ErrType},
		{"f a:int > b:int=#2 | delay int #2 | delay bool #2 | + a #0 | < a #0", api.ErrType},
		{"f a:int > b:int=#1 | delay bool #1 | + a #0", api.ErrType},

		// A diagram is what its ports say, whether it stands ahead or behind.
		{"f a:int > b:bool=#0 c:int=#0.1 | @g a #0.0 \n g a:int d:bool > x:bool=d y:int=a", api.ErrCycle},
		{"f a:int > b:bool=#0 c:int=#0.1 | @g a #1 | delay bool #0 \n g a:int d:bool > x:bool=d y:int=a", api.OK},
		{"g a:int d:bool > x:bool=d y:int=a \n f a:int > b:bool=#0 c:int=#0.1 | @g a #1 | delay bool #0", api.OK},
		{"f a:int > b:bool=#0.1 c:int=#0.0 | @g a #1 | delay bool #0 \n g a:int d:bool > x:bool=d y:int=a", api.ErrType},
		{"f a:int > b:bool=#0 | @g #1 a | delay bool #0 \n g a:int d:bool > x:bool=d y:int=a", api.ErrType},
		{"f a:int > b:int=#0 | @g a \n g a:int > x:bool=a", api.ErrType},
		{"f a:int > b:bool=#0 | @g a \n g a:int > x:bool=a", api.ErrType},
	} {
		a.holds(t)
	}
}
