package bdf_test

import (
	"testing"

	"shuttlecock/api"
	"shuttlecock/bdf"
	"shuttlecock/diag"
)

// manyNames are ports of three bytes each as a name, another one for each.
func manyNames(many int) []diag.Port {
	bytes := make([]byte, 0, 3*many)
	for i := range many {
		bytes = append(bytes, byte(i), byte(i>>8), byte(i>>16))
	}
	text := string(bytes)
	all := make([]diag.Port, many)
	for i := range all {
		all[i].Name = text[3*i : 3*i+3]
	}
	return all
}

// TestFull asks for the bytes of one Name more than a table can have, which
// takes some seconds.
func TestFull(t *testing.T) {
	if testing.Short() {
		t.Skip("it has 2^24 names")
	}
	const most = 1<<24 - 1
	f := of(diag.Diagram{Name: "\x07\x00\x00", Ins: manyNames(most)}, diag.Diagram{Name: "more"})
	if b, e := bdf.Encode(f); len(b) != 0 || e != api.ErrRange {
		t.Errorf("P13.1: 2^24 names: %d bytes, %d", len(b), e)
	}
	f.Diagrams[1].Blocks = []diag.Block{{N: -1}}
	if b, e := bdf.Encode(f); len(b) != 0 || e != api.ErrArg {
		t.Errorf("P13.1: 2^24 names, and not right: %d bytes, %d", len(b), e)
	}
}
