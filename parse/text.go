package parse

import (
	"shuttlecock/api"
	"shuttlecock/lex"
)

const (
	mostEntries = 1000 // of a list
	mostOpen    = 400
	mostDepth   = 200 // of an expression
)

// text is what is left of a text's tokens, and how many things are open at
// the next of them. The last one is the text's end, which is never passed.
type text struct {
	left []lex.Token
	open int
}

func (t *text) next() lex.Token {
	return t.left[0]
}

func (t *text) pass() {
	t.left = t.left[1:]
}

// giveUp gives the text up at the next token.
func (t *text) giveUp(why api.Errno) {
	panic(fault{at: t.next().At, why: why})
}

// is: does this word or sign come next? Its text tells it from all others: no
// name is written as a word is.
func (t *text) is(s string) bool {
	return t.next().Text == s
}

// may passes a word or a sign, if it comes next, and tells whether it did.
func (t *text) may(s string) bool {
	is := t.is(s)
	if is {
		t.pass()
	}
	return is
}

// must passes words and signs, each of which has to come.
func (t *text) must(all ...string) {
	for _, s := range all {
		if !t.may(s) {
			t.giveUp(api.ErrForm)
		}
	}
}

// named: does a name come next?
func (t *text) named() bool {
	return t.next().Kind == lex.Name
}

// name passes a name, which has to come.
func (t *text) name() string {
	if !t.named() {
		t.giveUp(api.ErrForm)
	}
	s := t.next().Text
	t.pass()
	return s
}

// room gives the text up, if a list that has n entries has no room for the
// one that begins with the next token.
func (t *text) room(n int) {
	if n == mostEntries {
		t.giveUp(api.ErrRange)
	}
}

// begin passes a token that opens something, till end.
func (t *text) begin() {
	if t.open == mostOpen {
		t.giveUp(api.ErrDeep)
	}
	t.open++
	t.pass()
}

func (t *text) end() {
	t.open--
}
