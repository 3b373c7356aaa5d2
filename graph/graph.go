// Package graph tells of things that are numbered from 0 on, and hang on one
// another, in which order they come, and which hang on themselves. What hangs
// on what is told by a list of each thing: the numbers, also more than once,
// of those on which it hangs.
package graph

import (
	"container/heap"
	"math"
)

// Order is the numbers, each behind all those on which it hangs; of those
// that might come next the least one. It is false, if there is none, as one
// hangs on itself, also by way of others.
func Order(on [][]int) ([]int, bool) {
	lacks := make([]int, len(on)) // how many it hangs on that have not come
	behind := make([][]int, len(on))
	next := &rising{} // those that might come next
	for i, all := range on {
		lacks[i] = len(all)
		for _, j := range all {
			behind[j] = append(behind[j], i)
		}
		if len(all) == 0 {
			heap.Push(next, i)
		}
	}
	order := make([]int, 0, len(on))
	for next.Len() > 0 {
		i := heap.Pop(next).(int)
		order = append(order, i)
		for _, j := range behind[i] {
			if lacks[j]--; lacks[j] == 0 {
				heap.Push(next, j)
			}
		}
	}
	if len(order) < len(on) {
		return nil, false
	}
	return order, true
}

// left is the turn of a thing that is on no path any more: behind all others.
const left = math.MaxInt

// search passes each thing once, and keeps the path of those of which it may
// still come out that they are in a circle with one that was met ahead.
type search struct {
	on    [][]int
	turn  int
	met   []int // the turn at which each was met; 0, if it was not yet
	path  []int
	first int // the least that hangs on itself
}

// First is the least number of what hangs on itself, also by way of others;
// -1, if nothing does.
func First(on [][]int) int {
	s := search{on: on, met: make([]int, len(on)), first: len(on)}
	for i := range on {
		if s.met[i] == 0 {
			s.meet(i)
		}
	}
	if s.first == len(on) {
		return -1
	}
	return s.first
}

// meet passes a thing, and all on which it hangs that were not met. It tells
// the earliest turn of what is still on the path, and on which it hangs: if
// that is its own, all behind it on the path are in circles with it, and with
// nothing else.
func (s *search) meet(i int) int {
	s.turn++
	s.met[i] = s.turn
	begin := len(s.path)
	s.path = append(s.path, i)
	earliest := s.turn
	for _, j := range s.on[i] {
		if j == i {
			s.first = min(s.first, i)
		}
		if s.met[j] == 0 {
			earliest = min(earliest, s.meet(j))
		}
		earliest = min(earliest, s.met[j])
	}
	if earliest == s.met[i] {
		s.leave(begin)
	}
	return earliest
}

// leave takes all from a place of the path on off it. If they are more than
// one, they are in a circle.
func (s *search) leave(begin int) {
	all := s.path[begin:]
	s.path = s.path[:begin]
	for _, i := range all {
		s.met[i] = left
		if len(all) > 1 {
			s.first = min(s.first, i)
		}
	}
}
