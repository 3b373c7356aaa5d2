// Package strtab is layer 2: texts, each once, and numbered
// (shared/doc/02-strtab.md).
package strtab

import (
	"strings"

	"shuttlecock/api"
	"shuttlecock/wire"
)

const (
	mostBytes = 65535     // of a text
	mostTexts = 1<<24 - 1 // of a table
)

// Table has texts, each once, numbered from 0 on.
type Table struct {
	texts   []string
	numbers map[string]int
}

// New makes a table without texts.
func New() *Table {
	return &Table{numbers: map[string]int{}}
}

// Add is the number of a text, which is put behind the others, if it is not
// among them.
func (t *Table) Add(s string) (int, api.Errno) {
	if len(s) > mostBytes {
		return 0, api.ErrRange
	}
	if i, is := t.Find(s); is {
		return i, api.OK
	}
	if t.Len() >= mostTexts {
		return 0, api.ErrRange
	}
	return t.keep(strings.Clone(s)), api.OK
}

// Get is the text of a number.
func (t *Table) Get(i int) (string, bool) {
	if i < 0 || i >= t.Len() {
		return "", false
	}
	return t.texts[i], true
}

// Find is the number of a text that is there.
func (t *Table) Find(s string) (int, bool) {
	i, is := t.numbers[s]
	return i, is
}

// Len is how many texts there are.
func (t *Table) Len() int {
	return len(t.texts)
}

// Put puts its bytes.
func (t *Table) Put(b []byte) []byte {
	b = wire.PutVar(b, uint64(t.Len()))
	for _, s := range t.texts {
		b = wire.PutText(b, s)
	}
	return b
}

// Read is the table that comes next, or one without texts, if the reader
// gives up.
func Read(r *wire.Reader) *Table {
	t := New()
	for range r.Var(mostTexts) {
		s := r.Text(mostBytes)
		if _, is := t.Find(s); is {
			r.Fail(api.ErrForm) // only if the text itself was read: the first error counts
		}
		if r.Err() != api.OK {
			return New()
		}
		t.keep(s)
	}
	return t
}

// keep puts a text that is the table's alone behind the others.
func (t *Table) keep(s string) int {
	i := t.Len()
	t.texts = append(t.texts, s)
	t.numbers[s] = i
	return i
}
