package lex_test

import (
	"math"
	"slices"
	"strings"
	"testing"

	"shuttlecock/api"
	"shuttlecock/lex"
)

// goes tells whether a text has these tokens, and an end behind its last
// byte.
func goes(t *testing.T, s string, want ...lex.Token) {
	t.Helper()
	want = append(want, lex.Token{Kind: lex.End, At: placeOf(s, len(s))})
	got, p, e := lex.Lex(s)
	if e != api.OK || p != (lex.Place{}) || !slices.Equal(got, want) {
		t.Errorf("P4.1: %q: %v, %v, %d, not %v", s, got, p, e, want)
	}
}

// fails tells whether of a text there is nothing but a place and an error.
func fails(t *testing.T, s string, want lex.Place, err api.Errno) {
	t.Helper()
	if got, p, e := lex.Lex(s); len(got) != 0 || p != want || e != err {
		t.Errorf("P4.1: %q: %v, %v, %d, not %v, %d", s, got, p, e, want, err)
	}
}

// texts are the texts of a text's tokens, with a blank behind each.
func texts(all []lex.Token) string {
	var s strings.Builder
	for _, x := range all {
		if x.Kind != lex.End {
			s.WriteString(x.Text + " ")
		}
	}
	return s.String()
}

func TestKinds(t *testing.T) {
	for want, kind := range []int{lex.End, lex.Name, lex.Word, lex.Number, lex.Sign} {
		if kind != want {
			t.Errorf("P4.1: the kind %d has the number %d", want, kind)
		}
	}
}

func TestTokens(t *testing.T) {
	const name, word, number, sign = lex.Name, lex.Word, lex.Number, lex.Sign
	goes(t, "")
	goes(t, " ")
	goes(t, "\n\n")
	goes(t, "x", lex.Token{Kind: name, Text: "x", At: at(1, 1)})
	goes(t, "x->-1",
		lex.Token{Kind: name, Text: "x", At: at(1, 1)},
		lex.Token{Kind: sign, Text: "->", At: at(1, 2)},
		lex.Token{Kind: sign, Text: "-", At: at(1, 4)},
		lex.Token{Kind: number, Text: "1", N: 1, At: at(1, 5)})
	goes(t, "a--b", lex.Token{Kind: name, Text: "a", At: at(1, 1)})
	goes(t, "node f(a1:int)\n\treturns ( _b : bool ) ;",
		lex.Token{Kind: word, Text: "node", At: at(1, 1)},
		lex.Token{Kind: name, Text: "f", At: at(1, 6)},
		lex.Token{Kind: sign, Text: "(", At: at(1, 7)},
		lex.Token{Kind: name, Text: "a1", At: at(1, 8)},
		lex.Token{Kind: sign, Text: ":", At: at(1, 10)},
		lex.Token{Kind: word, Text: "int", At: at(1, 11)},
		lex.Token{Kind: sign, Text: ")", At: at(1, 14)},
		lex.Token{Kind: word, Text: "returns", At: at(2, 2)},
		lex.Token{Kind: sign, Text: "(", At: at(2, 10)},
		lex.Token{Kind: name, Text: "_b", At: at(2, 12)},
		lex.Token{Kind: sign, Text: ":", At: at(2, 15)},
		lex.Token{Kind: word, Text: "bool", At: at(2, 17)},
		lex.Token{Kind: sign, Text: ")", At: at(2, 22)},
		lex.Token{Kind: sign, Text: ";", At: at(2, 24)})
	goes(t, "12ab_3 4",
		lex.Token{Kind: number, Text: "12", N: 12, At: at(1, 1)},
		lex.Token{Kind: name, Text: "ab_3", At: at(1, 3)},
		lex.Token{Kind: number, Text: "4", N: 4, At: at(1, 8)})
}

// TestLongest asks of texts without blanks where the tokens in them end.
func TestLongest(t *testing.T) {
	for s, want := range map[string]string{
		"a=>b":       "a => b ",
		"a=>=b":      "a => = b ",
		"a==b":       "a = = b ",
		"a<=>b":      "a <= > b ",
		"a<>=b":      "a <> = b ",
		"a<<>>b":     "a < <> > b ",
		"a>>=b":      "a > >= b ",
		"a<-b":       "a < - b ",
		"a<->b":      "a < -> b ",
		"a=->b":      "a = -> b ",
		"a->>b":      "a -> > b ",
		"a->=b":      "a -> = b ",
		"a->->b":     "a -> -> b ",
		"a- -b":      "a - - b ",
		"a+-*b":      "a + - * b ",
		"a*)b":       "a * ) b ",
		"(a)*(b)":    "( a ) * ( b ) ",
		"( *)":       "( * ) ",
		"((,;:))":    "( ( , ; : ) ) ",
		"if1":        "if1 ",
		"1if":        "1 if ",
		"iff":        "iff ",
		"i f":        "i f ",
		"_":          "_ ",
		"__1_":       "__1_ ",
		"1_":         "1 _ ",
		"0x1f":       "0 x1f ",
		"1 2":        "1 2 ",
		"then-else":  "then - else ",
		"a-->b":      "a ",
		"a->--b":     "a -> ",
		"a<--b":      "a < ",
		"a---b":      "a ",
		"a--b\nc":    "a c ",
		"a--b\r\nc":  "a c ",
		"a--b\rc":    "a ",
		"a\r\nc":     "a c ",
		"--":         "",
		"--\n":       "",
		"--\n--":     "",
		"--(*\na*)":  "a * ) ",
		"a(**)b":     "a b ",
		"a(***)b":    "a b ",
		"a(*)*)b":    "a b ",
		"(*)*)*)":    "* ) ",
		"(*(**)b":    "b ",
		"(*(**)*)":   "* ) ",
		"(*--*)b":    "b ",
		"(*a\n\n*)b": "b ",
		"a(* *b )*)": "a ",
		"(**)(**)b":  "b ",
		"(*#\x00*)b": "b ",
		"--é\xff\nb": "b ",
		"(*é\xff*)b": "b ",
		"(* \n--*)b": "b ",
		"((**)b":     "( b ",
		"-(**)-b":    "- - b ",
		"<(**)=b":    "< = b ",
		"a(**)b--c":  "a b ",
		"1(**)2":     "1 2 ",
	} {
		got, p, e := lex.Lex(s)
		if texts(got) != want || p != (lex.Place{}) || e != api.OK {
			t.Errorf("P4.1: %q: %q, %v, %d, not %q", s, texts(got), p, e, want)
		}
	}
}

func TestPlaces(t *testing.T) {
	for s, want := range map[string]lex.Place{
		"":                    at(1, 1),
		"z":                   at(1, 1),
		"  z":                 at(1, 3),
		"\tz":                 at(1, 2),
		"\rz":                 at(1, 2),
		"\nz":                 at(2, 1),
		"\r\nz":               at(2, 1),
		"\n\rz":               at(2, 2),
		"\n\n z":              at(3, 2),
		"abc z":               at(1, 5),
		"abc\nz":              at(2, 1),
		"1 + \n  z":           at(2, 3),
		"--z\nz":              at(2, 1),
		"--\n\nz":             at(3, 1),
		"--é\n z":             at(2, 2),
		"(*é*)z":              at(1, 7),
		"(*\n*)z":             at(2, 3),
		"(*\n\n*) (*\n*)  z":  at(4, 5),
		"a\n(* z\n z\n *)  z": at(4, 6),
		"(*\xff\xfe\x00*)z":   at(1, 8),
	} {
		got, _, e := lex.Lex(s)
		if e != api.OK || len(got) == 0 {
			t.Errorf("P4.1: %q: %d", s, e)
			continue
		}
		last := got[max(0, len(got)-2)]
		if last.At != want {
			t.Errorf("P4.1: %q: the last token at %v, not %v", s, last.At, want)
		}
		if end := got[len(got)-1]; end != (lex.Token{At: at(want.Line, want.Column+len(last.Text))}) {
			t.Errorf("P4.1: %q: the end is %v", s, end)
		}
		fails(t, strings.TrimSuffix(s, "z")+"#", want, api.ErrForm)
		fails(t, strings.TrimSuffix(s, "z")+"(*\n", want, api.ErrForm)
		fails(t, strings.TrimSuffix(s, "z")+"9223372036854775808", want, api.ErrRange)
	}
	for s, want := range map[string]lex.Place{" \n ": at(2, 2), "a\n": at(2, 1), "--a": at(1, 4), "--a\n": at(2, 1), "(*\n\n*)": at(3, 3), "a  ": at(1, 4)} {
		got, _, _ := lex.Lex(s)
		if len(got) == 0 || got[len(got)-1] != (lex.Token{At: want}) {
			t.Errorf("P4.1: %q: %v, not an end at %v", s, got, want)
		}
	}
}

func TestWordsAndNames(t *testing.T) {
	words := strings.Fields(theWords)
	for _, w := range words {
		goes(t, w, lex.Token{Kind: lex.Word, Text: w, At: at(1, 1)})
		for _, s := range []string{w + "_", "_" + w, w + "0", w + w, strings.ToUpper(w), strings.ToUpper(w[:1]) + w[1:], w[1:] + "_" + w[:1]} {
			goes(t, s, lex.Token{Kind: lex.Name, Text: s, At: at(1, 1)})
		}
		goes(t, w+" "+w+"1 "+w,
			lex.Token{Kind: lex.Word, Text: w, At: at(1, 1)},
			lex.Token{Kind: lex.Name, Text: w + "1", At: at(1, 2+len(w))},
			lex.Token{Kind: lex.Word, Text: w, At: at(1, 4+2*len(w))})
	}
	for _, c := range "aZ_" {
		long := strings.Repeat(string(c), 59)
		goes(t, long, lex.Token{Kind: lex.Name, Text: long, At: at(1, 1)})
		for _, last := range "aZ_09" {
			s := long + string(last)
			goes(t, " "+s, lex.Token{Kind: lex.Name, Text: s, At: at(1, 2)})
			fails(t, "x +\n "+s+"a", at(2, 2), api.ErrRange)
			fails(t, "x +\n "+s+"0", at(2, 2), api.ErrRange)
			fails(t, s+strings.Repeat("b", 70000), at(1, 1), api.ErrRange)
		}
	}
}

func TestNumbers(t *testing.T) {
	zeros := strings.Repeat("0", 1000)
	for s, n := range map[string]int64{
		"0": 0, "00": 0, "1": 1, "9": 9, "10": 10, "007": 7, "08": 8, "010": 10, "1234567890": 1234567890, "2147483648": 1 << 31,
		"9223372036854775806": math.MaxInt64 - 1, "9223372036854775807": math.MaxInt64, "0009223372036854775807": math.MaxInt64,
		zeros: 0, zeros + "5": 5, zeros + "9223372036854775807": math.MaxInt64,
	} {
		goes(t, s, lex.Token{Kind: lex.Number, Text: s, N: n, At: at(1, 1)})
		goes(t, "-"+s+"x",
			lex.Token{Kind: lex.Sign, Text: "-", At: at(1, 1)},
			lex.Token{Kind: lex.Number, Text: s, N: n, At: at(1, 2)},
			lex.Token{Kind: lex.Name, Text: "x", At: at(1, 2+len(s))})
	}
	for _, s := range []string{
		"9223372036854775808", "9223372036854775810", "9999999999999999999", "10000000000000000000", "18446744073709551615",
		"18446744073709551616", "18446744073709551617", "36893488147419103232", "100000000000000000000",
		"0009223372036854775808", zeros + "9223372036854775808", strings.Repeat("9", 70000), "1" + zeros,
	} {
		fails(t, s, at(1, 1), api.ErrRange)
		fails(t, "-"+s+"x", at(1, 2), api.ErrRange)
	}
}

func TestSigns(t *testing.T) {
	signs := strings.Fields(theSigns)
	if len(signs) != 16 {
		t.Fatalf("%d signs", len(signs))
	}
	for _, a := range signs {
		goes(t, a, lex.Token{Kind: lex.Sign, Text: a, At: at(1, 1)})
		for _, b := range signs {
			goes(t, a+" "+b, lex.Token{Kind: lex.Sign, Text: a, At: at(1, 1)}, lex.Token{Kind: lex.Sign, Text: b, At: at(1, 2+len(a))})
			if a+b == "(*" {
				fails(t, a+b, at(1, 1), api.ErrForm)
			}
			if a+b == "--" || a+b == "-->" {
				goes(t, a+b)
			}
		}
	}
}

func TestEachByte(t *testing.T) {
	const letters = "abcdefghijklmnopqrstuvwxyzABCDEFGHIJKLMNOPQRSTUVWXYZ_"
	for c := range 256 {
		s := string([]byte{byte(c)})
		p := at(1, 1)
		switch {
		case strings.Contains(theBlanks, s):
			goes(t, s)
			goes(t, s+s)
		case strings.Contains(letters, s):
			goes(t, s, lex.Token{Kind: lex.Name, Text: s, At: p})
		case '0' <= c && c <= '9':
			goes(t, s, lex.Token{Kind: lex.Number, Text: s, N: int64(c - '0'), At: p})
		case strings.Contains(theSigns, s):
			goes(t, s, lex.Token{Kind: lex.Sign, Text: s, At: p})
		default:
			fails(t, s, p, api.ErrForm)
			fails(t, "x"+s, at(1, 2), api.ErrForm)
			fails(t, "1"+s+"1", at(1, 2), api.ErrForm)
			fails(t, "-"+s, at(1, 2), api.ErrForm)
			fails(t, "a\n "+s+" #", at(2, 2), api.ErrForm)
		}
		if c != '\n' {
			goes(t, "--"+s)
			goes(t, "--"+s+"#")
		}
		goes(t, "(*"+s+"*)")
	}
}

// TestFirstCounts asks of texts with more than one fault.
func TestFirstCounts(t *testing.T) {
	long := strings.Repeat("n", 61)
	for _, c := range []struct {
		s    string
		want lex.Place
		err  api.Errno
	}{
		{"# " + long, at(1, 1), api.ErrForm},
		{long + " #", at(1, 1), api.ErrRange},
		{long + "#", at(1, 1), api.ErrRange},
		{"#" + long, at(1, 1), api.ErrForm},
		{"9223372036854775808#", at(1, 1), api.ErrRange},
		{"#9223372036854775808", at(1, 1), api.ErrForm},
		{"9223372036854775808" + long, at(1, 1), api.ErrRange},
		{"(* # 9223372036854775808 " + long, at(1, 1), api.ErrForm},
		{"1 9223372036854775808 (*", at(1, 3), api.ErrRange},
		{"1 (* 9223372036854775808", at(1, 3), api.ErrForm},
		{"(*)", at(1, 1), api.ErrForm},
		{"(*", at(1, 1), api.ErrForm},
		{"(* *", at(1, 1), api.ErrForm},
		{"(* * )", at(1, 1), api.ErrForm},
		{"(**", at(1, 1), api.ErrForm},
		{"((*)", at(1, 2), api.ErrForm},
		{"(**)(*)", at(1, 5), api.ErrForm},
		{"(*(**)*)(*", at(1, 9), api.ErrForm},
		{"(*\n\n*)\n  (* \n\n", at(4, 3), api.ErrForm},
		{"--(*\n(*--*", at(2, 1), api.ErrForm},
		{"f(*)", at(1, 2), api.ErrForm},
		{"é", at(1, 1), api.ErrForm},
		{"xé", at(1, 2), api.ErrForm},
		{"x # y ?", at(1, 3), api.ErrForm},
		{"x\v", at(1, 2), api.ErrForm},
		{"\u00a0x", at(1, 1), api.ErrForm},
		{"\ufeffx", at(1, 1), api.ErrForm},
		{"a\n\"b\"", at(2, 1), api.ErrForm},
		{"a!=b", at(1, 2), api.ErrForm},
		{"1.5", at(1, 2), api.ErrForm},
		{"a/b", at(1, 2), api.ErrForm},
		{"a -\x00", at(1, 4), api.ErrForm},
	} {
		fails(t, c.s, c.want, c.err)
	}
}
