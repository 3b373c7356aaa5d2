package lex_test

import (
	"math/rand/v2"
	"slices"
	"strings"
	"testing"
	"unsafe"

	"shuttlecock/api"
	"shuttlecock/lex"
)

// The call has the signature of the document.
var _ func(string) ([]lex.Token, lex.Place, api.Errno) = lex.Lex

// The structs have the fields of the document, and no others (R3).
var (
	_ = struct {
		Line, Column int
	}(lex.Place{})
	_ = struct {
		Kind int
		Text string
		N    int64
		At   lex.Place
	}(lex.Token{})
)

// holds tells whether a text's tokens are those that the document's words
// tell of, and whether they follow from it, and from themselves.
func holds(t *testing.T, s string) bool {
	t.Helper()
	got, p, e := lex.Lex(s)
	want, q, f := lexByWords(s)
	if e != f || p != q || !slices.Equal(got, want) {
		t.Errorf("P4.1: %q: %v, %v, %d, not %v, %v, %d", s, got, p, e, want, q, f)
		return false
	}
	again, q, f := lex.Lex(s)
	if e != f || p != q || !slices.Equal(got, again) {
		t.Errorf("R6: %q: asked twice, and not answered likewise", s)
	}
	if e == api.OK {
		covers(t, s, got)
		comesAgain(t, got)
	}
	return e == api.OK
}

// covers tells whether each byte that is no token's is a blank's or a note's,
// and each other one just one token's.
func covers(t *testing.T, s string, all []lex.Token) {
	t.Helper()
	i := 0
	for _, x := range all {
		rest := s[i:]
		for rest != "" && placeOf(s, len(s)-len(rest)) != x.At {
			skipped := ""
			for _, sort := range sorts[:3] {
				if skipped = sort.what.FindString(rest); skipped != "" {
					break
				}
			}
			if skipped == "" {
				t.Errorf("P4.2: %q: %q is no blank's, no note's and no token's", s, rest)
				return
			}
			rest = rest[len(skipped):]
		}
		if !strings.HasPrefix(rest, x.Text) || x.Kind == lex.End && rest != "" {
			t.Errorf("P4.2: %q: no token %v at its place", s, x)
			return
		}
		i = len(s) - len(rest) + len(x.Text)
	}
}

// comesAgain tells whether tokens come out again, put one behind the other
// with a blank between.
func comesAgain(t *testing.T, all []lex.Token) {
	t.Helper()
	s := texts(all)
	again, _, e := lex.Lex(s)
	same := slices.EqualFunc(all, again, func(x, y lex.Token) bool {
		return x.Kind == y.Kind && x.Text == y.Text && x.N == y.N
	})
	if e != api.OK || !same {
		t.Errorf("P4.2: %q: %v, %d, not %v", s, again, e, all)
	}
}

// TestAllShortTexts asks of all texts of a few bytes that notes, signs, names
// and numbers are made of.
func TestAllShortTexts(t *testing.T) {
	const of = "(*)-<>=\na1#"
	many := 1
	for n := range 6 {
		for number := range many {
			b := make([]byte, n)
			for i := range b {
				b[i] = of[number%len(of)]
				number /= len(of)
			}
			if holds(t, string(b)); t.Failed() {
				return
			}
		}
		many *= len(of)
	}
}

// pieces are what texts are put together of.
func pieces() []string {
	all := []string{
		" ", " ", " ", "\n", "\t", "\r\n", "--", "-- a note\n", "(*", "*)", "(* a\n note *)", "(**)", "x", "_y1", "Node", "é", "#", "\x00",
		"0", "1", "42", "007", "9223372036854775807", "9223372036854775808",
		strings.Repeat("n", 30), strings.Repeat("n", 60), strings.Repeat("n", 61),
	}
	return slices.Concat(all, strings.Fields(theWords), strings.Fields(theSigns))
}

func TestWhateverComes(t *testing.T) {
	from, rights := pieces(), 0
	for seed := range uint64(20000) {
		r := rand.New(rand.NewPCG(seed, 4))
		var s strings.Builder
		for range r.IntN(12) {
			s.WriteString(from[r.IntN(len(from))])
			if seed%2 == 0 {
				s.WriteString(" ")
			}
		}
		if holds(t, s.String()) {
			rights++
		}
	}
	if rights < 5000 {
		t.Errorf("only %d texts are right", rights)
	}
	for seed := range uint64(5000) {
		r := rand.New(rand.NewPCG(seed, 5))
		b := make([]byte, r.IntN(9))
		for i := range b {
			b[i] = byte(r.Uint32())
		}
		holds(t, string(b))
		holds(t, "--"+string(b)+"\nx")
		holds(t, "(*"+string(b)+"*)x")
	}
}

// TestLongTexts asks of texts that take long, if a byte is passed more than a
// few times.
func TestLongTexts(t *testing.T) {
	const many = 1 << 18
	for _, c := range []struct {
		s    string
		want int // how many tokens, and the end
	}{
		{strings.Repeat(" ", many), 1},
		{strings.Repeat("\n", many), 1},
		{strings.Repeat("-", many), 1},
		{strings.Repeat("--\n", many), 1},
		{strings.Repeat("(**)", many), 1},
		{"(*" + strings.Repeat("*", many) + ")", 1},
		{"(*" + strings.Repeat("(*", many) + "*)", 1},
		{strings.Repeat("0", many), 2},
		{strings.Repeat("x ", many), many + 1},
		{strings.Repeat("->", many), many + 1},
		{strings.Repeat("1(*\n*)", many), many + 1},
	} {
		all, p, e := lex.Lex(c.s)
		if len(all) != c.want || p != (lex.Place{}) || e != api.OK {
			t.Errorf("R1: %.9q and so on: %d tokens, %v, %d", c.s, len(all), p, e)
			continue
		}
		lines := 1 + strings.Count(c.s, "\n")
		if end := all[len(all)-1]; end.At != at(lines, len(c.s)-strings.LastIndexByte(c.s, '\n')) {
			t.Errorf("P4.1: %.9q and so on: an end at %v", c.s, end.At)
		}
	}
	fails(t, strings.Repeat("(**)\n", many)+"(*", at(many+1, 1), api.ErrForm)
}

// TestNothingIsShared asks whether a token's text stands in the memory of
// what was handed in, of another answer, or of what is kept.
func TestNothingIsShared(t *testing.T) {
	const plain = "node x -> 1 <> tel x (* note *)"
	s := strings.Clone(plain)
	first, _, _ := lex.Lex(s)
	second, _, _ := lex.Lex(s)
	within := func(x, of string) bool {
		a, b := uintptr(unsafe.Pointer(unsafe.StringData(x))), uintptr(unsafe.Pointer(unsafe.StringData(of)))
		return x != "" && b <= a && a < b+uintptr(len(of))
	}
	for i, x := range first {
		if within(x.Text, s) {
			t.Errorf("R4: %q shares memory with what was handed in", x.Text)
		}
		for _, y := range second {
			if within(x.Text, y.Text) {
				t.Errorf("R4: %q shares memory with another answer", x.Text)
			}
		}
		first[i] = lex.Token{Kind: 9}
	}
	if third, _, _ := lex.Lex(s); !slices.Equal(second, third) || s != plain {
		t.Error("R4: what is answered, or was handed in, changes with an answer that is changed")
	}
}

func TestNothingIsKept(t *testing.T) {
	const s = "a (* b\n *) c 1"
	first, _, _ := lex.Lex(s)
	for _, other := range []string{"", "#", "(*", "\n\n", "a c 9223372036854775808", "node a c"} {
		lex.Lex(other)
		if again, p, e := lex.Lex(s); !slices.Equal(first, again) || p != (lex.Place{}) || e != api.OK {
			t.Errorf("R6: %q is answered otherwise behind %q", s, other)
		}
	}
}
