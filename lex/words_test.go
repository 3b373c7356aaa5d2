package lex_test

import (
	"math/big"
	"regexp"
	"slices"
	"strings"

	"shuttlecock/api"
	"shuttlecock/lex"
)

// The words, the signs and the blanks, as the document has them.
const (
	theWords  = "and bool const div else false if int let mod node not or pre returns tel then true var xor"
	theSigns  = "( ) , ; : = <> < <= > >= => -> + - *"
	theBlanks = " \t\r\n"
)

// sorts are what a text's bytes may be, those that count ahead of others
// first.
var sorts = []struct {
	what *regexp.Regexp
	kind int // or one of those below
}{
	{regexp.MustCompile(`^[ \t\r\n]+`), between},
	{regexp.MustCompile(`^--[^\n]*`), between},
	{regexp.MustCompile(`^\(\*(?s:.*?)\*\)`), between},
	{regexp.MustCompile(`^\(\*`), endless},
	{regexp.MustCompile(`^[A-Za-z_][A-Za-z_0-9]*`), lex.Name},
	{regexp.MustCompile(`^[0-9]+`), lex.Number},
	{regexp.MustCompile(`^(<>|<=|>=|=>|->)`), lex.Sign},
	{regexp.MustCompile(`^[(),;:=<>+*-]`), lex.Sign},
}

const (
	between = -1
	endless = -2
)

// at is a place.
func at(line, column int) lex.Place {
	return lex.Place{Line: line, Column: column}
}

// placeOf is the place of the byte i of s.
func placeOf(s string, i int) lex.Place {
	return at(1+strings.Count(s[:i], "\n"), i-strings.LastIndexByte(s[:i], '\n'))
}

// lexByWords are a text's tokens, step by step as the document's words tell
// it.
func lexByWords(s string) ([]lex.Token, lex.Place, api.Errno) {
	var all []lex.Token
	for i := 0; i < len(s); {
		found, kind := "", endless
		for _, x := range sorts {
			if found = x.what.FindString(s[i:]); found != "" {
				kind = x.kind
				break
			}
		}
		if kind == endless {
			return nil, placeOf(s, i), api.ErrForm
		}
		if kind != between {
			x, e := tokenByWords(kind, found)
			if e != api.OK {
				return nil, placeOf(s, i), e
			}
			x.At = placeOf(s, i)
			all = append(all, x)
		}
		i += len(found)
	}
	return append(all, lex.Token{At: placeOf(s, len(s))}), lex.Place{}, api.OK
}

func tokenByWords(kind int, s string) (lex.Token, api.Errno) {
	x := lex.Token{Kind: kind, Text: s}
	switch {
	case kind == lex.Name && slices.Contains(strings.Fields(theWords), s):
		x.Kind = lex.Word
	case kind == lex.Name && len(s) > 60:
		return x, api.ErrRange
	case kind == lex.Number:
		n, _ := new(big.Int).SetString(s, 10)
		if !n.IsInt64() {
			return x, api.ErrRange
		}
		x.N = n.Int64()
	}
	return x, api.OK
}
