package lex

import (
	"strconv"
	"strings"

	"shuttlecock/api"
	"shuttlecock/ast"
)

// text is what is left of a text, and what has been made of it so far.
type text struct {
	left   string
	at     Place // of the first byte that is left
	tokens []Token
	kinds  map[string]int // of the words and names that have come
}

func begin(s string) *text {
	return &text{left: s, at: Place{Line: 1, Column: 1}, kinds: map[string]int{}}
}

// all passes all bytes, and takes the tokens among them, or stops ahead of
// the first that can't be. Each of the parts passes what it knows, if that
// comes next; what none of them knows begins no token.
func (t *text) all() api.Errno {
	parts := [...]func() api.Errno{t.between, t.wordOrName, t.number, t.sign}
next:
	for t.left != "" {
		ahead := len(t.left)
		for _, part := range parts {
			if e := part(); e != api.OK {
				return e
			}
			if len(t.left) < ahead {
				continue next
			}
		}
		return api.ErrForm
	}
	return api.OK
}

// between passes blanks, or a note.
func (t *text) between() api.Errno {
	s, ends := between(t.left)
	if !ends {
		return api.ErrForm
	}
	t.pass(s)
	return api.OK
}

func (t *text) wordOrName() api.Errno {
	if !letter(t.left[0]) {
		return api.OK
	}
	s := run(t.left, letterOrDigit)
	kind, is := t.kind(s)
	if !is {
		return api.ErrRange
	}
	t.take(kind, s, 0)
	return api.OK
}

// kind is that of letters and digits; false, if they are too many for a name.
// Layer 3 is asked of each text but once: it makes all words anew to answer.
func (t *text) kind(s string) (int, bool) {
	kind, known := t.kinds[s]
	switch {
	case known:
		return kind, true
	case ast.Name(s):
		kind = Name
	case ast.Word(s):
		kind = Word
	default:
		return 0, false
	}
	t.kinds[s] = kind
	return kind, true
}

func (t *text) number() api.Errno {
	s := run(t.left, digit)
	if s == "" {
		return api.OK
	}
	n, err := strconv.ParseInt(s, 10, 64)
	if err != nil { // of digits alone: they are too many
		return api.ErrRange
	}
	t.take(Number, s, n)
	return api.OK
}

func (t *text) sign() api.Errno {
	for _, s := range signs {
		if strings.HasPrefix(t.left, s) {
			t.take(Sign, s, 0)
			break
		}
	}
	return api.OK
}

// take makes a token of the bytes that come next, and passes them. Its text
// is a copy: an answer shares no memory with what was handed in.
func (t *text) take(kind int, s string, n int64) {
	t.tokens = append(t.tokens, Token{Kind: kind, Text: strings.Clone(s), N: n, At: t.at})
	t.pass(s)
}

// pass passes the bytes that come next.
func (t *text) pass(s string) {
	for _, c := range []byte(s) {
		t.at.Column++
		if c == newLine {
			t.at.Line++
			t.at.Column = 1
		}
	}
	t.left = t.left[len(s):]
}
