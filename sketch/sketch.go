// Package sketch makes files of diagrams of short texts, and any sound, or just
// right, ones of what is thrown. It is for the tests of the layers that have to
// do with diagrams: no layer calls it.
package sketch

import (
	"slices"
	"strconv"
	"strings"

	"shuttlecock/diag"
)

// sketch is a file that is being made of a text.
type sketch struct {
	diag.File
}

// File is that of a text, whose lines are diagrams, as here:
//
//	name in:int c:bool > out:int=#0 d:bool=#2.1 | + in #1 | delay int #0 | @other c
//
// A source is an in-port's name, or a block's number and that of a result. A
// block is a number, true, false, `neg`, `not`, an op of two, `delay` and a
// type, `start`, `if`, or @ and a diagram's name; and then its sources. A text
// that is none is a test's fault: there is no going on.
func File(text string) diag.File {
	var s sketch
	var lines []string
	for line := range strings.SplitSeq(text, "\n") {
		if line = strings.TrimSpace(line); line != "" {
			lines = append(lines, line)
			s.Diagrams = append(s.Diagrams, diag.Diagram{Name: strings.Fields(line)[0]})
		}
	}
	for i, line := range lines {
		s.diagram(&s.Diagrams[i], line)
	}
	return s.File
}

// at is the place of a word among those that there are.
func at(word string, all ...string) int {
	i := slices.Index(all, word)
	if i < 0 {
		panic("sketch: " + strconv.Quote(word))
	}
	return i
}

// number is that of a word.
func number(word string) int {
	n, err := strconv.Atoi(word)
	if err != nil {
		panic("sketch: " + strconv.Quote(word))
	}
	return n
}

// diagram puts to a diagram what stands in its line.
func (s sketch) diagram(d *diag.Diagram, line string) {
	parts := strings.Split(line, "|")
	ins, outs, _ := strings.Cut(" "+parts[0], " > ")
	for _, word := range strings.Fields(ins)[1:] {
		d.Ins = append(d.Ins, port(word))
	}
	for _, word := range strings.Fields(outs) {
		p, from, _ := strings.Cut(word, "=")
		d.Outs = append(d.Outs, diag.Out{Port: port(p), From: source(*d, from)})
	}
	for _, part := range parts[1:] {
		b, from := s.block(strings.Fields(part))
		for _, word := range from {
			b.From = append(b.From, source(*d, word))
		}
		d.Blocks = append(d.Blocks, b)
	}
}

func port(word string) diag.Port {
	name, kind, _ := strings.Cut(word, ":")
	return diag.Port{Name: name, Type: at(kind, "int", "bool")}
}

func source(d diag.Diagram, word string) diag.Source {
	if result, is := strings.CutPrefix(word, "#"); is {
		block, port, is := strings.Cut(result, ".")
		if !is {
			port = "0"
		}
		return diag.Source{Block: number(block), Port: number(port)}
	}
	var names []string
	for _, p := range d.Ins {
		names = append(names, p.Name)
	}
	return diag.Source{Block: -1, Port: at(word, names...)}
}

// block is a block without sources, and these as words.
func (s sketch) block(words []string) (diag.Block, []string) {
	word, from := words[0], words[1:]
	if n, err := strconv.ParseInt(word, 10, 64); err == nil {
		return diag.Block{N: n}, from
	}
	if name, is := strings.CutPrefix(word, "@"); is {
		return diag.Block{Kind: diag.Sub, Sub: s.sub(name)}, from
	}
	switch word {
	case "false", "true":
		return diag.Block{Kind: diag.Bool, N: int64(at(word, "false", "true"))}, from
	case "neg", "not":
		return diag.Block{Kind: diag.Un, Op: at(word, "neg", "not")}, from
	case "delay":
		return diag.Block{Kind: diag.Delay, Op: at(from[0], "int", "bool")}, from[1:]
	case "start":
		return diag.Block{Kind: diag.Start}, from
	case "if":
		return diag.Block{Kind: diag.Choice}, from
	}
	op := at(word, "->", "=>", "or", "xor", "and", "=", "<>", "<", "<=", ">", ">=", "+", "-", "*", "div", "mod")
	return diag.Block{Kind: diag.Bin, Op: op}, from
}

// sub is the number of a diagram.
func (s sketch) sub(name string) int {
	var names []string
	for _, d := range s.Diagrams {
		names = append(names, d.Name)
	}
	return at(name, names...)
}
