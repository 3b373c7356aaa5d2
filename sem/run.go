package sem

import (
	"shuttlecock/api"
	"shuttlecock/ast"
	"shuttlecock/cause"
	"shuttlecock/check"
)

// How much may be run.
const (
	mostWeight   = 10000
	mostInstants = 1000
)

// instance is a call, or what is run, with its past.
type instance struct {
	*plan
	begun bool        // the instant 0 is over
	past  []Value     // of each pre
	inner []*instance // of each call
}

// start is a new instance, ahead of the instant 0.
func (p *plan) start() *instance {
	return &instance{plan: p, past: make([]Value, len(p.keeps)), inner: each(p.calls, (*plan).start)}
}

// instant makes all values of one instant, of what stands in the first places.
func (in *instance) instant() {
	for _, does := range in.steps {
		does(in)
	}
	for i, at := range in.keeps {
		in.past[i] = in.values[at]
	}
	in.begun = true
}

// trace is what goes out, instant by instant, of what comes in.
func (in *instance) trace(ins [][]Value) [][]Value {
	return each(ins, func(l []Value) []Value {
		copy(in.values, l)
		in.instant()
		return each(in.outs, func(at int) Value { return in.values[at] })
	})
}

// find is, of a program that has causes, its types, and the number of a node;
// else nothing and the error.
func find(p ast.Program, node string) (*check.Types, int, api.Errno) {
	t, e := cause.Check(p)
	if e != api.OK {
		return nil, 0, e
	}
	i, is := t.Find(node)
	if !is {
		return nil, 0, api.ErrName
	}
	return t, i, api.OK
}

// weights are the nodes' ones; whatever is more than may be run is one more.
func weights(p ast.Program, t *check.Types) []int {
	all := make([]int, len(p.Nodes))
	for _, i := range t.Order() {
		all[i] = 1
		for _, q := range p.Nodes[i].Eqs {
			for e := range q.Rhs.Walk() {
				if e.Kind == ast.Call {
					j, _ := t.Find(e.Name)
					all[i] = min(all[i]+all[j], mostWeight+1)
				}
			}
		}
	}
	return all
}

// Weight is a node's weight, 10001 at most; 0 and the error, if the program
// has no causes, or no such node.
func Weight(p ast.Program, node string) (int, api.Errno) {
	t, i, e := find(p, node)
	if e != api.OK {
		return 0, e
	}
	return weights(p, t)[i], api.OK
}

// Run is what goes out of a node at each instant, of what comes in; nothing
// and the error, if it can't be run, or another thing comes in than may.
func Run(p ast.Program, node string, ins [][]Value) ([][]Value, api.Errno) {
	t, i, e := find(p, node)
	if e != api.OK {
		return nil, e
	}
	if weights(p, t)[i] > mostWeight || len(ins) > mostInstants {
		return nil, api.ErrRange
	}
	for _, l := range ins {
		if e := Typed(p.Nodes[i].Ins, l); e != api.OK {
			return nil, e
		}
	}
	return plans(p, t)[i].start().trace(ins), api.OK
}
