package graph

import "sort"

// rising are numbers of which the least one is taken first.
type rising struct{ sort.IntSlice }

// Push puts a number to the others, as package heap asks for it.
func (r *rising) Push(x any) {
	r.IntSlice = append(r.IntSlice, x.(int))
}

// Pop takes the last one, as package heap asks for it.
func (r *rising) Pop() any {
	last := len(r.IntSlice) - 1
	x := r.IntSlice[last]
	r.IntSlice = r.IntSlice[:last]
	return x
}
