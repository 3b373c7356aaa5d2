package strtab_test

import (
	"testing"

	"shuttlecock/api"
	"shuttlecock/strtab"
)

// text is a text of three bytes, another one for each number below 2^24.
func text(i int) string {
	return string([]byte{byte(i), byte(i >> 8), byte(i >> 16)})
}

// TestFull adds as many texts as may be, which takes some seconds.
func TestFull(t *testing.T) {
	if testing.Short() {
		t.Skip("it adds 2^24 - 1 texts")
	}
	const most = 1<<24 - 1
	x := strtab.New()
	for i := range most {
		if n, e := x.Add(text(i)); n != i || e != api.OK {
			t.Fatalf("P2.1: the text %d: %d, %d", i, n, e)
		}
	}
	for range 2 {
		if n, e := x.Add(text(most)); n != 0 || e != api.ErrRange || x.Len() != most {
			t.Errorf("P2.1: a text more than may be: %d, %d, of %d", n, e, x.Len())
		}
	}
	for _, i := range []int{0, 1, most - 1} {
		if n, e := x.Add(text(i)); n != i || e != api.OK {
			t.Errorf("P2.1: the text %d of a full table: %d, %d", i, n, e)
		}
	}
	if n, is := x.Find(text(most)); n != 0 || is {
		t.Errorf("R2: a text more than may be is kept: %d", n)
	}
	if s, is := x.Get(most - 1); s != text(most-1) || !is {
		t.Errorf("P2.1: the last text: %q, %t", s, is)
	}
	if s, is := x.Get(most); s != "" || is {
		t.Errorf("P2.1: behind the last text: %q, %t", s, is)
	}
}
