package ast

import "math"

const (
	mostDepth   = 200  // of an expression
	mostEntries = 1000 // of a list
	lastType    = 1    // the types are 0 int, 1 bool
)

// shape is what an expression of a kind has.
type shape struct {
	lastOp   int   // the ops begin at 0
	greatest int64 // of the numbers, which begin at 0
	named    bool
	fewest   int // of its Kids
	most     int
}

// shapes are those of the kinds, by their numbers.
var shapes = [...]shape{
	Int:  {greatest: math.MaxInt64},
	Bool: {greatest: 1},
	Var:  {named: true},
	Un:   {lastOp: Pre, fewest: 1, most: 1},
	Bin:  {lastOp: Mod, fewest: 2, most: 2},
	If:   {fewest: 3, most: 3},
	Call: {named: true, most: mostEntries},
}

// Right: may it be?
func (e Expr) Right() bool {
	return allWords().expr(e)
}

// Right: may it be?
func (n Node) Right() bool {
	return allWords().node(n)
}

// Right: may it be?
func (p Program) Right() bool {
	return all(p.Nodes, allWords().node)
}

// all: has a list no more entries than it may, and is each of them right?
func all[T any](list []T, right func(T) bool) bool {
	if len(list) > mostEntries {
		return false
	}
	for _, entry := range list {
		if !right(entry) {
			return false
		}
	}
	return true
}

func (w words) node(n Node) bool {
	return w.name(n.Name) && all(n.Ins, w.variable) && len(n.Outs) > 0 && all(n.Outs, w.variable) &&
		all(n.Locals, w.variable) && all(n.Eqs, w.equation)
}

func (w words) variable(v Variable) bool {
	return w.name(v.Name) && 0 <= v.Type && v.Type <= lastType
}

func (w words) equation(q Equation) bool {
	return len(q.Lhs) > 0 && all(q.Lhs, w.name) && w.expr(q.Rhs)
}

func (w words) expr(e Expr) bool {
	if !e.within(mostDepth) {
		return false
	}
	for x := range e.Walk() {
		if !w.fits(x) {
			return false
		}
	}
	return true
}

// within: is it no deeper than that? It looks no further down than it must,
// so that it is soon told of an expression of any depth.
func (e Expr) within(depth int) bool {
	if depth == 0 {
		return false
	}
	for _, kid := range e.Kids {
		if !kid.within(depth - 1) {
			return false
		}
	}
	return true
}

// fits: has it what its kind has, whatever its Kids are?
func (w words) fits(e Expr) bool {
	if e.Kind < 0 || e.Kind >= len(shapes) {
		return false
	}
	s := shapes[e.Kind]
	return 0 <= e.Op && e.Op <= s.lastOp && 0 <= e.N && e.N <= s.greatest && w.called(e.Name, s.named) &&
		s.fewest <= len(e.Kids) && len(e.Kids) <= s.most
}

// called: has it a name, or none, as its kind asks?
func (w words) called(name string, named bool) bool {
	if named {
		return w.name(name)
	}
	return name == ""
}
