package ast

import "iter"

// Depth is 1, and as much as the deepest of its Kids has.
func (e Expr) Depth() int {
	below := 0
	for _, kid := range e.Kids {
		below = max(below, kid.Depth())
	}
	return 1 + below
}

// Size is 1, and its Kids' sizes.
func (e Expr) Size() int {
	n := 0
	for range e.Walk() {
		n++
	}
	return n
}

// Walk is a walk through it, and all below it, each ahead of its Kids, in
// order.
func (e Expr) Walk() iter.Seq[Expr] {
	return func(yield func(Expr) bool) {
		e.hand(yield)
	}
}

// hand hands out it, and all below it, and tells whether whoever walks goes
// on. It calls itself, and makes no walks of its Kids: in a deep expression
// each would have to pass through all those above it.
func (e Expr) hand(yield func(Expr) bool) bool {
	if !yield(e) {
		return false
	}
	for _, kid := range e.Kids {
		if !kid.hand(yield) {
			return false
		}
	}
	return true
}
