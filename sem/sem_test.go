package sem_test

import (
	"math"
	"strconv"
	"strings"
	"testing"

	"shuttlecock/api"
	"shuttlecock/ast"
	"shuttlecock/parse"
	"shuttlecock/sem"
)

// The calls have the signatures of the document, and the struct its fields.
var (
	_ func(int64) sem.Value                                               = sem.Of
	_ func(bool) sem.Value                                                = sem.Truth
	_ func(sem.Value) string                                              = sem.Value.String
	_ func(string) (sem.Value, api.Errno)                                 = sem.Parse
	_ func(int, sem.Value) sem.Value                                      = sem.Unary
	_ func(int, sem.Value, sem.Value) sem.Value                           = sem.Binary
	_ func(sem.Value, sem.Value, sem.Value) sem.Value                     = sem.Choose
	_ func([]ast.Variable, []sem.Value) api.Errno                         = sem.Typed
	_ func(ast.Program, string) (int, api.Errno)                          = sem.Weight
	_ func(ast.Program, string, [][]sem.Value) ([][]sem.Value, api.Errno) = sem.Run
	_ struct {
		Kind int
		N    int64
	} = sem.Value{}
)

// The values that are neither an int nor a bool.
var (
	none  = sem.Value{}
	wrong = sem.Value{Kind: sem.Err}
)

// program is that of a text.
func program(t *testing.T, text string) ast.Program {
	t.Helper()
	p, at, e := parse.Parse(text)
	if e != api.OK {
		t.Fatalf("%.300s: %d at %d:%d", text, e, at.Line, at.Column)
	}
	return p
}

// value is that of a word.
func value(s string) sem.Value {
	switch s {
	case "nil":
		return none
	case "err":
		return wrong
	case "true":
		return sem.Value{Kind: sem.Bool, N: 1}
	case "false":
		return sem.Value{Kind: sem.Bool}
	}
	n, e := strconv.ParseInt(s, 10, 64)
	if e != nil {
		panic(e)
	}
	return sem.Value{Kind: sem.Int, N: n}
}

// values are those of words.
func values(s string) []sem.Value {
	var all []sem.Value
	for _, word := range strings.Fields(s) {
		all = append(all, value(word))
	}
	return all
}

// word is a value's.
func word(v sem.Value) string {
	switch v {
	case none:
		return "nil"
	case wrong:
		return "err"
	case sem.Value{Kind: sem.Bool, N: 1}:
		return "true"
	case sem.Value{Kind: sem.Bool}:
		return "false"
	}
	if v.Kind == sem.Int {
		return strconv.FormatInt(v.N, 10)
	}
	return "(" + strconv.Itoa(v.Kind) + ": " + strconv.FormatInt(v.N, 10) + ")"
}

// The ints by which most goes wrong.
var ints = []int64{
	0, 1, -1, 2, -2, 3, -3, 7, -7, 10, -10, 255, 1 << 31, 1<<31 - 1, -1 << 31, 1<<32 + 1, 3037000500, 1 << 62, -1 << 62, 1<<62 + 1,
	math.MaxInt64, math.MaxInt64 - 1, math.MinInt64, math.MinInt64 + 1,
}

func TestKinds(t *testing.T) {
	for want, kind := range []int{sem.Nil, sem.Int, sem.Bool, sem.Err} {
		if kind != want {
			t.Errorf("the kind %d is %d", want, kind)
		}
	}
}

func TestOfAndTruth(t *testing.T) {
	for _, n := range ints {
		if v := sem.Of(n); v.Kind != 1 || v.N != n {
			t.Errorf("P9.1: Of(%d): %v", n, v)
		}
	}
	if v := sem.Truth(true); v.Kind != 2 || v.N != 1 {
		t.Errorf("P9.1: Truth(true): %v", v)
	}
	if v := sem.Truth(false); v.Kind != 2 || v.N != 0 {
		t.Errorf("P9.1: Truth(false): %v", v)
	}
}

func TestString(t *testing.T) {
	for s, v := range map[string]sem.Value{
		"nil": {}, "err": {Kind: 3}, "true": {Kind: 2, N: 1}, "false": {Kind: 2}, "0": {Kind: 1}, "1": {Kind: 1, N: 1}, "-1": {Kind: 1, N: -1}, "10": {Kind: 1, N: 10}, "-70": {Kind: 1, N: -70},
		"9223372036854775807": {Kind: 1, N: math.MaxInt64}, "-9223372036854775808": {Kind: 1, N: math.MinInt64},
	} {
		if got := v.String(); got != s {
			t.Errorf("P9.1: %v: %q, not %q", v, got, s)
		}
		if got, e := sem.Parse(s); got != v || e != api.OK {
			t.Errorf("P9.1: Parse(%q): %v, %d", s, got, e)
		}
	}
	for _, n := range ints {
		if s := strconv.FormatInt(n, 10); sem.Of(n).String() != s {
			t.Errorf("P9.1: %d: %q", n, sem.Of(n).String())
		} else if v, e := sem.Parse(s); v != sem.Of(n) || e != api.OK {
			t.Errorf("P9.1: Parse(%q): %v, %d", s, v, e)
		}
	}
}

// TestStringOfNoValue asks for the texts of what is no value.
func TestStringOfNoValue(t *testing.T) {
	for _, kind := range []int{4, 5, -1, -2, 99, math.MaxInt, math.MinInt} {
		for _, n := range ints {
			if s := (sem.Value{Kind: kind, N: n}).String(); s != "err" {
				t.Errorf("P9.1: of the kind %d: %q", kind, s)
			}
		}
	}
	for _, n := range ints {
		want := "false"
		if n == 1 {
			want = "true"
		}
		if s := (sem.Value{Kind: sem.Bool, N: n}).String(); s != want {
			t.Errorf("P9.1: of a bool with %d: %q", n, s)
		}
		if s := (sem.Value{Kind: sem.Nil, N: n}).String(); s != "nil" {
			t.Errorf("P9.1: of a nil with %d: %q", n, s)
		}
		if s := (sem.Value{Kind: sem.Err, N: n}).String(); s != "err" {
			t.Errorf("P9.1: of an err with %d: %q", n, s)
		}
	}
}

func TestParseWrong(t *testing.T) {
	for _, s := range []string{
		"", " ", "-", "+", "+1", "-0", "00", "01", "-01", "007", "1 ", " 1", "1\n", "\t1", "--1", "- 1", "1-", "1.0", "1e3", "0x1", "0b1", "0o7", "1_000", "1,2", "a", "１", "٣", "1\x00",
		"9223372036854775808", "-9223372036854775809", "18446744073709551616", "-9223372036854775807.", "99999999999999999999999", strings.Repeat("1", 1<<16), "-" + strings.Repeat("0", 1<<16),
		"Nil", "NIL", "nil ", " nil", "nill", "ni", "<nil>", "Err", "error", "err ", "er", "errr", "True", "true ", "t", "tru", "TRUE", "False", "fals", "falsee", "f", "nil,nil", "truefalse", "none", "\xff", "nil\x00",
	} {
		if v, e := sem.Parse(s); v != none || e != api.ErrForm {
			t.Errorf("P9.1: Parse(%.100q): %v, %d", s, v, e)
		}
	}
}

// TestParseShort holds all texts of a few bytes of these against the texts of
// values.
func TestParseShort(t *testing.T) {
	all := []string{""}
	for range 4 {
		for _, s := range all {
			for _, c := range "-+019nilertuf s" {
				all = append(all, s+string(c))
			}
		}
		all = all[len(all)/16:]
		for _, s := range all {
			v, e := sem.Parse(s)
			n, is := strconv.Atoi(s)
			if texts := is == nil && s == strconv.Itoa(n) || s == "nil" || s == "err" || s == "true"; texts != (e == api.OK) {
				t.Fatalf("P9.1: Parse(%q): %v, %d", s, v, e)
			} else if texts && v != value(s) || !texts && (v != none || e != api.ErrForm) {
				t.Fatalf("P9.1: Parse(%q): %v, %d", s, v, e)
			}
		}
	}
}

// variables are those of types, i and b; others are of other types.
func variables(types string) []ast.Variable {
	var all []ast.Variable
	for i, c := range types {
		kind := map[rune]int{'i': 0, 'b': 1, 'n': -1, 't': 2, 'e': 3}[c]
		all = append(all, ast.Variable{Name: "x" + strconv.Itoa(i), Type: kind})
	}
	return all
}

func TestTyped(t *testing.T) {
	for _, c := range []struct {
		types, values string
		want          api.Errno
	}{
		{"", "", api.OK}, {"i", "5", api.OK}, {"i", "-9223372036854775808", api.OK}, {"i", "9223372036854775807", api.OK}, {"b", "true", api.OK}, {"b", "false", api.OK},
		{"ib", "1 true", api.OK}, {"bi", "false 0", api.OK}, {"iii", "1 2 3", api.OK}, {"bbi", "true true 3", api.OK},

		{"", "1", api.ErrArity}, {"", "nil", api.ErrArity}, {"i", "", api.ErrArity}, {"i", "1 2", api.ErrArity}, {"ib", "1", api.ErrArity}, {"ib", "1 true 1", api.ErrArity}, {"b", "", api.ErrArity},

		{"i", "true", api.ErrType}, {"i", "false", api.ErrType}, {"b", "0", api.ErrType}, {"b", "1", api.ErrType}, {"ib", "true 1", api.ErrType}, {"ib", "1 1", api.ErrType},
		{"ib", "true true", api.ErrType}, {"iii", "1 2 true", api.ErrType}, {"iii", "true 2 3", api.ErrType}, {"bb", "true 0", api.ErrType},

		// nil and err are of no type.
		{"i", "nil", api.ErrType}, {"b", "nil", api.ErrType}, {"i", "err", api.ErrType}, {"b", "err", api.ErrType}, {"ii", "1 nil", api.ErrType}, {"bi", "true err", api.ErrType},

		// How many there are is asked first.
		{"i", "true true", api.ErrArity}, {"ib", "nil", api.ErrArity}, {"ib", "true 1 1", api.ErrArity},

		// Of no type that is none there is a value.
		{"n", "1", api.ErrType}, {"n", "nil", api.ErrType}, {"t", "true", api.ErrType}, {"t", "1", api.ErrType}, {"t", "err", api.ErrType}, {"e", "err", api.ErrType}, {"in", "1 nil", api.ErrType},
	} {
		if got := sem.Typed(variables(c.types), values(c.values)); got != c.want {
			t.Errorf("P9.4: Typed: %q of %q: %d, not %d", c.values, c.types, got, c.want)
		}
	}
}

// TestTypedNoValue asks it of what is no value.
func TestTypedNoValue(t *testing.T) {
	for _, n := range ints {
		want := api.ErrType
		if n == 0 || n == 1 {
			want = api.OK
		}
		if got := sem.Typed(variables("b"), []sem.Value{{Kind: sem.Bool, N: n}}); got != want {
			t.Errorf("P9.4: Typed: of a bool with %d: %d, not %d", n, got, want)
		}
		for _, kind := range []int{-1, 0, 3, 4, 5, 99, math.MaxInt, math.MinInt} {
			for _, types := range []string{"i", "b", "n", "t", "e"} {
				if got := sem.Typed(variables(types), []sem.Value{{Kind: kind, N: n}}); got != api.ErrType {
					t.Errorf("P9.4: Typed: of the kind %d and %q: %d", kind, types, got)
				}
			}
		}
	}
	great := make([]sem.Value, 1<<16)
	if got := sem.Typed(make([]ast.Variable, 1<<16), great); got != api.ErrType {
		t.Errorf("P9.4: Typed: of many: %d", got)
	}
	for i := range great {
		great[i] = sem.Of(int64(i))
	}
	if got := sem.Typed(make([]ast.Variable, 1<<16), great); got != api.OK {
		t.Errorf("P9.4: Typed: of many ints: %d", got)
	}
}
