package sketch

import (
	"math"
	"strings"

	"shuttlecock/api"
	"shuttlecock/diag"
	"shuttlecock/sem"
)

// Trace is that of a text: values as layer 9 tells them, instants parted by
// `|`, of which `-` is one without values.
func Trace(text string) [][]sem.Value {
	if text == "" {
		return nil
	}
	var all [][]sem.Value
	for instant := range strings.SplitSeq(text, "|") {
		var l []sem.Value
		for _, word := range strings.Fields(instant) {
			if word != "-" {
				l = append(l, value(word))
			}
		}
		all = append(all, l)
	}
	return all
}

func value(word string) sem.Value {
	v, e := sem.Parse(word)
	if e != api.OK {
		panic("sketch: " + word)
	}
	return v
}

// Words is the text of a trace.
func Words(trace [][]sem.Value) string {
	var instants []string
	for _, l := range trace {
		var words []string
		for _, v := range l {
			words = append(words, v.String())
		}
		if len(l) == 0 {
			words = []string{"-"}
		}
		instants = append(instants, strings.Join(words, " "))
	}
	return strings.Join(instants, " | ")
}

// AnyTrace is what may come in by these ports.
func AnyTrace(d Dice, ins []diag.Port) [][]sem.Value {
	all := make([][]sem.Value, d.IntN(9))
	for i := range all {
		for _, p := range ins {
			all[i] = append(all[i], anyValue(d, p.Type))
		}
	}
	return all
}

func anyValue(d Dice, kind int) sem.Value {
	if kind == typeBool {
		return sem.Truth(d.IntN(2) == 1)
	}
	ints := [...]int64{0, 1, -1, 2, -3, 7, 10, 1 << 40, math.MaxInt64, math.MinInt64}
	return sem.Of(ints[d.IntN(len(ints))])
}
