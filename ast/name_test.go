package ast_test

import (
	"strings"
	"testing"

	"shuttlecock/ast"
)

// The words, and the letters, as the document has them.
const (
	theWords = "and bool const div else false if int let mod node not or pre returns tel then true var xor"
	letters  = "abcdefghijklmnopqrstuvwxyzABCDEFGHIJKLMNOPQRSTUVWXYZ_"
	digits   = "0123456789"
)

// names are texts that are names, beside words of which just one letter is
// changed.
func names() []string {
	all := []string{
		"x", "_", "__", "_1", "_x1", "x1", "x_9Z", "a0123456789", "node_", "_node", "pre1", "ifthen", "no", "in", "o", "Pre", "PRE",
		"returns_", "assert", "current", "end", "fby", "real", "when", "func", "nil", "Int", "BOOL",
		letters[:26], letters[26:], strings.Repeat("x", 59), strings.Repeat("x", 60), "_" + strings.Repeat("9", 59),
	}
	for _, w := range strings.Fields(theWords) {
		for i := range w {
			all = append(all, w[:i]+strings.ToUpper(w[i:i+1])+w[i+1:])
		}
		all = append(all, strings.ToUpper(w), w+"_", w+"1", "_"+w, w+w)
	}
	return all
}

// noNames are texts that are none, beside the words.
func noNames() []string {
	return []string{
		"", "1", "0x", "9_", "1pre", " ", "x ", " x", "a b", "x\x00", "\x00", "x\n", "x-", "-x", "x.y", "x'", "x,y", "x:", "(x)", "é", "xé", "ß",
		"\xff", "x\xc3", "名", " if", "if ", strings.Repeat("x", 61), "_" + strings.Repeat("9", 60), strings.Repeat("x", 70000),
	}
}

func TestName(t *testing.T) {
	for _, s := range names() {
		if !ast.Name(s) {
			t.Errorf("P3.1: %q is no name", s)
		}
	}
	for _, s := range append(noNames(), strings.Fields(theWords)...) {
		if ast.Name(s) {
			t.Errorf("P3.1: %q is a name", s)
		}
	}
}

func TestNameOfEachByte(t *testing.T) {
	for c := range 256 {
		b := string([]byte{byte(c)})
		first, later := strings.Contains(letters, b), strings.Contains(letters+digits, b)
		if ast.Name(b) != first || ast.Name(b+"x") != first || ast.Name(b+"0") != first {
			t.Errorf("P3.1: a name that begins with %q: %t", b, !first)
		}
		if ast.Name("x"+b) != later || ast.Name("_"+b+"_") != later || ast.Name(strings.Repeat("x", 59)+b) != later {
			t.Errorf("P3.1: a name with %q behind its beginning: %t", b, !later)
		}
		if ast.Name(strings.Repeat("x", 60) + b) {
			t.Errorf("P3.1: a name of 61 bytes, %q the last", b)
		}
	}
}

func TestWord(t *testing.T) {
	if n := len(strings.Fields(theWords)); n != 20 {
		t.Fatalf("%d words", n)
	}
	for _, s := range strings.Fields(theWords) {
		if !ast.Word(s) {
			t.Errorf("P3.1: %q is no word", s)
		}
	}
	for _, s := range append(names(), noNames()...) {
		if ast.Word(s) {
			t.Errorf("P3.1: %q is a word", s)
		}
	}
}
