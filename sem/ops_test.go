package sem_test

import (
	"math"
	"math/big"
	"math/rand/v2"
	"slices"
	"strings"
	"testing"

	"shuttlecock/ast"
	"shuttlecock/sem"
)

// The ops, by their numbers.
var (
	ones = strings.Fields("- not pre")
	twos = strings.Fields("-> => or xor and = <> < <= > >= + - * div mod")
)

// number is an int's word as a number that has no end.
func number(s string) *big.Int {
	n, is := new(big.Int).SetString(s, 10)
	if !is {
		return nil
	}
	return n
}

// wrapped is the word of a number modulo 2^64, from -2^63 on.
func wrapped(n *big.Int) string {
	half, whole := new(big.Int).Lsh(big.NewInt(1), 63), new(big.Int).Lsh(big.NewInt(1), 64)
	n = new(big.Int).Add(n, half)
	return n.Sub(n.Mod(n, whole), half).String()
}

// said is the word of a bool.
func said(is bool) string {
	if is {
		return "true"
	}
	return "false"
}

// readsOne is a second reading of what an op of one makes, by words; nothing,
// if that is not promised.
func readsOne(op, a string) string {
	switch {
	case a == "err" || a == "nil":
		return a
	case op == "-" && number(a) != nil:
		return wrapped(new(big.Int).Neg(number(a)))
	case op == "not" && number(a) == nil:
		return said(a == "false")
	}
	return ""
}

// readsTwo is a second reading of what an op of two makes.
func readsTwo(op, a, b string) string {
	switch {
	case a == "err" || b == "err":
		return "err"
	case a == "nil" || b == "nil":
		return "nil"
	case (number(a) == nil) != (number(b) == nil):
		return ""
	case op == "=" || op == "<>":
		return said((a == b) == (op == "="))
	case number(a) == nil:
		return readsBools(op, a == "true", b == "true")
	}
	return readsInts(op, number(a), number(b))
}

func readsBools(op string, a, b bool) string {
	switch op {
	case "or":
		return said(a || b)
	case "xor":
		return said((a || b) && !(a && b))
	case "and":
		return said(a && b)
	case "=>":
		return said(b || !a)
	}
	return ""
}

func readsInts(op string, a, b *big.Int) string {
	n := new(big.Int)
	switch op {
	case "<":
		return said(a.Cmp(b) < 0)
	case "<=":
		return said(a.Cmp(b) <= 0)
	case ">":
		return said(a.Cmp(b) > 0)
	case ">=":
		return said(a.Cmp(b) >= 0)
	case "+":
		return wrapped(n.Add(a, b))
	case "-":
		return wrapped(n.Sub(a, b))
	case "*":
		return wrapped(n.Mul(a, b))
	case "div", "mod":
		if b.Sign() == 0 {
			return "err"
		}
		if op == "div" {
			return wrapped(n.Quo(a, b))
		}
		return wrapped(n.Rem(a, b))
	}
	return ""
}

// readsIf is a second reading of an if, whose first is no int.
func readsIf(c, a, b string) string {
	return map[string]string{"err": "err", "nil": "nil", "true": a, "false": b}[c]
}

// words are those of all values that go wrong.
func words() []string {
	all := []string{"nil", "err", "true", "false"}
	for _, n := range ints {
		all = append(all, word(sem.Of(n)))
	}
	return all
}

func TestOps(t *testing.T) {
	for s, want := range map[string]string{
		"- 5": "-5", "- -5": "5", "- 0": "0", "- -9223372036854775808": "-9223372036854775808", "- nil": "nil", "- err": "err",
		"not true": "false", "not false": "true", "not nil": "nil", "not err": "err",

		"true => true": "true", "true => false": "false", "false => true": "true", "false => false": "true", "false => nil": "nil", "nil => true": "nil", "false => err": "err", "err => true": "err",
		"true or true": "true", "true or false": "true", "false or true": "true", "false or false": "false", "true or nil": "nil", "nil or true": "nil", "true or err": "err", "err or true": "err",
		"true xor true": "false", "true xor false": "true", "false xor true": "true", "false xor false": "false", "nil xor false": "nil", "false xor err": "err",
		"true and true": "true", "true and false": "false", "false and true": "false", "false and false": "false", "false and nil": "nil", "nil and false": "nil", "false and err": "err", "err and false": "err",

		"1 = 1": "true", "1 = 2": "false", "true = true": "true", "false = false": "true", "true = false": "false", "nil = nil": "nil", "err = err": "err", "nil = 1": "nil", "nil = true": "nil", "1 = err": "err",
		"1 <> 1": "false", "1 <> 2": "true", "true <> true": "false", "true <> false": "true", "nil <> nil": "nil", "err <> err": "err", "nil <> err": "err", "err <> nil": "err",
		"1 < 2": "true", "2 < 2": "false", "3 < 2": "false", "-3 < 2": "true", "nil < 1": "nil", "1 < err": "err",
		"1 <= 2": "true", "2 <= 2": "true", "3 <= 2": "false", "1 <= nil": "nil", "err <= 1": "err",
		"1 > 2": "false", "2 > 2": "false", "3 > 2": "true", "2 > -3": "true", "nil > nil": "nil", "nil > err": "err",
		"1 >= 2": "false", "2 >= 2": "true", "3 >= 2": "true", "nil >= 1": "nil", "err >= nil": "err",
		"-9223372036854775808 < 9223372036854775807": "true", "9223372036854775807 <= -9223372036854775808": "false",

		"1 + 2": "3", "9223372036854775807 + 1": "-9223372036854775808", "-9223372036854775808 + -1": "9223372036854775807", "1 + nil": "nil", "nil + err": "err",
		"1 - 2": "-1", "-9223372036854775808 - 1": "9223372036854775807", "0 - -9223372036854775808": "-9223372036854775808", "nil - 1": "nil", "err - nil": "err",
		"7 * -6": "-42", "4611686018427387904 * 4": "0", "4611686018427387904 * 2": "-9223372036854775808", "3037000500 * 3037000500": "-9223372036709301616", "-1 * -9223372036854775808": "-9223372036854775808", "0 * nil": "nil", "0 * err": "err",

		"7 div 2": "3", "-7 div 2": "-3", "7 div -2": "-3", "-7 div -2": "3", "0 div 5": "0", "-9223372036854775808 div -1": "-9223372036854775808", "-9223372036854775808 div 1": "-9223372036854775808", "9223372036854775807 div -1": "-9223372036854775807",
		"5 div 0": "err", "0 div 0": "err", "-9223372036854775808 div 0": "err", "nil div 0": "nil", "err div 0": "err", "5 div nil": "nil", "5 div err": "err",
		"7 mod 2": "1", "-7 mod 2": "-1", "7 mod -2": "1", "-7 mod -2": "-1", "6 mod 3": "0", "-6 mod 3": "0", "-9223372036854775808 mod -1": "0", "5 mod -9223372036854775808": "5", "-9223372036854775808 mod 10": "-8",
		"5 mod 0": "err", "0 mod 0": "err", "nil mod 0": "nil", "err mod 0": "err", "5 mod nil": "nil", "0 mod err": "err",
	} {
		f := strings.Fields(s)
		if len(f) == 2 {
			if got := sem.Unary(slices.Index(ones, f[0]), value(f[1])); got != value(want) {
				t.Errorf("P9.4: %s: %s, not %s", s, word(got), want)
			}
		} else if got := sem.Binary(slices.Index(twos, f[1]), value(f[0]), value(f[2])); got != value(want) {
			t.Errorf("P9.4: %s: %s, not %s", s, word(got), want)
		}
	}
}

// TestAllOps holds what the ops make of all these values against the second
// reading.
func TestAllOps(t *testing.T) {
	held := 0
	for i, op := range ones[:2] {
		for _, a := range words() {
			if want := readsOne(op, a); want != "" {
				held++
				if got := sem.Unary(i, value(a)); got != value(want) {
					t.Errorf("P9.4: %s %s: %s, not %s", op, a, word(got), want)
				}
			}
		}
	}
	for i, op := range twos[1:] {
		for _, a := range words() {
			for _, b := range words() {
				if want := readsTwo(op, a, b); want != "" {
					held++
					if got := sem.Binary(i+1, value(a), value(b)); got != value(want) {
						t.Errorf("P9.4: %s %s %s: %s, not %s", a, op, b, word(got), want)
					}
				}
			}
		}
	}
	if held < 8000 {
		t.Errorf("only %d are held against the second reading", held)
	}
}

func TestAllOpsOfAnyInts(t *testing.T) {
	r := rand.New(rand.NewPCG(9, 4))
	some := func() string {
		return word(sem.Of(int64(r.Uint64()) >> r.IntN(64)))
	}
	for range 20000 {
		a, b := some(), some()
		for i, op := range twos {
			if want := readsTwo(op, a, b); want != "" {
				if got := sem.Binary(i, value(a), value(b)); got != value(want) {
					t.Fatalf("P9.4: %s %s %s: %s, not %s", a, op, b, word(got), want)
				}
			}
		}
		if got, want := sem.Unary(ast.Neg, value(a)), readsOne("-", a); got != value(want) {
			t.Fatalf("P9.4: - %s: %s, not %s", a, word(got), want)
		}
	}
}

// TestParts holds div and mod against what binds them: a is b times (a div b),
// and (a mod b) more.
func TestParts(t *testing.T) {
	for _, a := range ints {
		for _, b := range ints {
			if b == 0 {
				continue
			}
			x, y := sem.Binary(ast.Div, sem.Of(a), sem.Of(b)), sem.Binary(ast.Mod, sem.Of(a), sem.Of(b))
			if again := sem.Binary(ast.Add, sem.Binary(ast.Mul, sem.Of(b), x), y); again != sem.Of(a) {
				t.Errorf("P9.4: %d and %d: %s, %s", a, b, word(x), word(y))
			}
			if y.N < 0 && a >= 0 || y.N > 0 && a <= 0 {
				t.Errorf("P9.4: %d mod %d: %s", a, b, word(y))
			}
		}
	}
}

// noValues are no values; of the first two the numbers are wrong ones.
var noValues = []sem.Value{
	{Kind: sem.Bool, N: 2}, {Kind: sem.Bool, N: -1}, {Kind: sem.Nil, N: 7}, {Kind: sem.Err, N: 7}, {Kind: 4}, {Kind: -1}, {Kind: 99, N: math.MinInt64}, {Kind: math.MaxInt, N: 1}, {Kind: math.MinInt},
}

func TestChoose(t *testing.T) {
	for _, c := range []string{"err", "nil", "true", "false"} {
		for _, a := range words() {
			for _, b := range words() {
				if got, want := sem.Choose(value(c), value(a), value(b)), readsIf(c, a, b); got != value(want) {
					t.Errorf("P9.4: if %s then %s else %s: %s, not %s", c, a, b, word(got), want)
				}
			}
		}
	}
	for _, v := range noValues {
		if got := sem.Choose(value("true"), v, value("5")); got != v {
			t.Errorf("P9.4: if true then %s: %s", word(v), word(got))
		}
		if got := sem.Choose(value("false"), value("5"), v); got != v {
			t.Errorf("P9.4: if false else %s: %s", word(v), word(got))
		}
		for _, c := range []string{"err", "nil"} {
			if got := sem.Choose(value(c), v, v); got != value(c) {
				t.Errorf("P9.4: if %s then %s: %s", c, word(v), word(got))
			}
		}
	}
}

// TestOpsOfAnything asks for what no more is promised of than an end.
func TestOpsOfAnything(t *testing.T) {
	all := append(values(strings.Join(words(), " ")), noValues...)
	numbers := []int{math.MinInt, -99, -2, -1, 0, 1, 2, 3, 4, 15, 16, 17, 99, 1 << 32, 1<<32 + 14, math.MaxInt}
	for _, a := range all {
		for _, op := range numbers {
			if x, y := sem.Unary(op, a), sem.Unary(op, a); x != y {
				t.Errorf("R6: the op %d of %s: %s, and then %s", op, word(a), word(x), word(y))
			}
		}
		for _, b := range all {
			for _, op := range append(numbers, ast.Div, ast.Mod, ast.And, ast.Eq) {
				if x, y := sem.Binary(op, a, b), sem.Binary(op, a, b); x != y {
					t.Errorf("R6: the op %d of %s, %s: %s, and then %s", op, word(a), word(b), word(x), word(y))
				}
			}
			if x, y := sem.Choose(a, b, a), sem.Choose(a, b, a); x != y {
				t.Errorf("R6: if %s then %s: %s, and then %s", word(a), word(b), word(x), word(y))
			}
		}
	}
}
