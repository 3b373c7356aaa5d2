package ops_test

import (
	"strings"
	"testing"

	"shuttlecock/ops"
)

// takes are, by letters, which operands the ops may have, and what they are
// then: of one, and of two, by their numbers.
var takes = [][]string{
	strings.Split("i>i,b>b,i>i b>b", ","),
	strings.Split("ii>i bb>b,bb>b,bb>b,bb>b,bb>b,ii>b bb>b,ii>b bb>b,ii>b,ii>b,ii>b,ii>b,ii>i,ii>i,ii>i,ii>i,ii>i", ","),
	{"bii>i bbb>b"},
}

// words of so many letters i and b are all that there are.
func words(many int) []string {
	if many == 0 {
		return []string{""}
	}
	var all []string
	for _, s := range words(many - 1) {
		all = append(all, s+"i", s+"b")
	}
	return all
}

// asked is what is answered of an op of so many operands.
func asked(number int, s string) (int, bool) {
	var operands []int
	for _, letter := range s {
		operands = append(operands, strings.IndexRune("ib", letter))
	}
	switch len(s) {
	case 1:
		return ops.One(number, operands)
	case 2:
		return ops.Two(number, operands)
	}
	return ops.If(operands)
}

func TestOps(t *testing.T) {
	if ops.Int != 0 || ops.Bool != 1 {
		t.Errorf("the types are %d and %d", ops.Int, ops.Bool)
	}
	for i, all := range takes {
		for number, one := range all {
			for _, s := range words(i + 1) {
				want, may := 0, false
				for _, x := range strings.Fields(one) {
					if of, is, _ := strings.Cut(x, ">"); of == s {
						want, may = strings.Index("ib", is), true
					}
				}
				if got, is := asked(number, s); got != want || is != may {
					t.Errorf("the op %d of %s: %d, %t, not %d, %t", number, s, got, is, want, may)
				}
			}
		}
	}
}
