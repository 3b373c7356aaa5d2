package lex

import "strings"

const (
	lineNote = "--" // begins a note to the end of its line
	noteFrom = "(*" // begins a note
	noteTo   = "*)" // ends it
	newLine  = '\n'
)

// signs are all signs, those of two bytes ahead of those of one, so that the
// first that fits is the longest.
var signs = [...]string{
	"<>", "<=", ">=", "=>", "->",
	"(", ")", ",", ";", ":", "=", "<", ">", "+", "-", "*",
}

func blank(c byte) bool {
	return c == ' ' || c == '\t' || c == '\r' || c == newLine
}

// letter: may a word or a name begin with it?
func letter(c byte) bool {
	return 'a' <= c && c <= 'z' || 'A' <= c && c <= 'Z' || c == '_'
}

func digit(c byte) bool {
	return '0' <= c && c <= '9'
}

func letterOrDigit(c byte) bool {
	return letter(c) || digit(c)
}

// run is what s begins with of bytes that are all of one sort.
func run(s string, is func(byte) bool) string {
	n := 0
	for n < len(s) && is(s[n]) {
		n++
	}
	return s[:n]
}

// between is what s begins with of what stands between tokens: blanks, or a
// note; false, if it is a note without an end.
func between(s string) (string, bool) {
	switch {
	case strings.HasPrefix(s, lineNote):
		return run(s, func(c byte) bool { return c != newLine }), true
	case strings.HasPrefix(s, noteFrom):
		return note(s)
	}
	return run(s, blank), true
}

// note is the note that s begins with; false, if it has no end. Its
// beginning is passed ahead of looking for that, as they may share no byte.
func note(s string) (string, bool) {
	inside, _, ends := strings.Cut(s[len(noteFrom):], noteTo)
	if !ends {
		return "", false
	}
	return s[:len(noteFrom)+len(inside)+len(noteTo)], true
}
