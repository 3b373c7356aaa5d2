package sem

import (
	"shuttlecock/ast"
	"shuttlecock/cause"
	"shuttlecock/check"
)

// plan is a node that is made ready to be run. All its values of an instant
// have places, first what comes in. As no node calls itself, there is never
// more than one instance that is worked on: they share the places, and have of
// their own just what they keep for the next instant.
type plan struct {
	values []Value
	steps  []step
	outs   []int   // the places of what goes out
	keeps  []int   // of each pre, the place of what is kept
	calls  []*plan // of each call, what it is an instance of
}

// step makes the values of some places, by those of others.
type step func(*instance)

// planner makes a node's plan.
type planner struct {
	*plan
	types *check.Types
	plans []*plan        // those of the nodes ahead
	where map[string]int // the variables' places
	below []ast.Expr     // what stands below each pre
}

// each is what a function makes of each thing of a list.
func each[T, U any](l []T, does func(T) U) []U {
	all := make([]U, len(l))
	for i, x := range l {
		all[i] = does(x)
	}
	return all
}

// plans are those of a program's nodes, each made behind those that it calls.
func plans(p ast.Program, t *check.Types) []*plan {
	all := make([]*plan, len(p.Nodes))
	for _, i := range t.Order() {
		n := planner{plan: &plan{}, types: t, plans: all, where: map[string]int{}}
		n.node(p.Nodes[i])
		all[i] = n.plan
	}
	return all
}

// node plans a node. What stands below a pre comes behind all equations, as
// it may hang on any of them; meanwhile more may be found below it.
func (p *planner) node(n ast.Node) {
	for _, v := range n.Ins {
		p.where[v.Name] = p.place(Value{})
	}
	order, _ := cause.Order(n)
	for _, i := range order {
		places := p.results(n.Eqs[i].Rhs)
		for j, name := range n.Eqs[i].Lhs {
			p.where[name] = places[j]
		}
	}
	for i := 0; i < len(p.below); i++ {
		p.keeps = append(p.keeps, p.expr(p.below[i]))
	}
	p.outs = each(n.Outs, func(v ast.Variable) int { return p.where[v.Name] })
}

// place is a new place. What stands there first is there for good, if no step
// makes it.
func (p *planner) place(v Value) int {
	p.values = append(p.values, v)
	return len(p.values) - 1
}

// made is the place of a value that a new step makes.
func (p *planner) made(does func(in *instance) Value) int {
	to := p.place(Value{})
	p.steps = append(p.steps, func(in *instance) { in.values[to] = does(in) })
	return to
}

// expr plans an expression of one result, and tells its place.
func (p *planner) expr(e ast.Expr) int {
	return p.results(e)[0]
}

// results plans an expression, and tells its results' places.
func (p *planner) results(e ast.Expr) []int {
	if e.Kind == ast.Call {
		return p.call(e)
	}
	return []int{p.single(e)}
}

// single plans an expression that is no call, and tells its place.
func (p *planner) single(e ast.Expr) int {
	switch {
	case e.Kind == ast.Int:
		return p.place(Of(e.N))
	case e.Kind == ast.Bool:
		return p.place(Truth(e.N == 1))
	case e.Kind == ast.Var:
		return p.where[e.Name]
	case e.Kind == ast.Un && e.Op == ast.Pre:
		return p.pre(e.Kids[0])
	}
	kids := each(e.Kids, p.expr)
	switch {
	case e.Kind == ast.Un:
		return p.unary(unaries()[e.Op], kids[0])
	case e.Kind == ast.If:
		return p.choice(kids[0], kids[1], kids[2])
	case e.Op == ast.Arrow:
		return p.arrow(kids[0], kids[1])
	}
	return p.binary(binaries()[e.Op], kids[0], kids[1])
}

func (p *planner) unary(o unary, a int) int {
	return p.made(func(in *instance) Value { return o.made(in.values[a]) })
}

func (p *planner) binary(o binary, a, b int) int {
	return p.made(func(in *instance) Value { return o.made(in.values[a], in.values[b]) })
}

func (p *planner) choice(c, a, b int) int {
	return p.made(func(in *instance) Value { return Choose(in.values[c], in.values[a], in.values[b]) })
}

func (p *planner) arrow(a, b int) int {
	return p.made(func(in *instance) Value {
		if in.begun {
			return in.values[b]
		}
		return in.values[a]
	})
}

// pre hands out what was kept, and leaves what is below it for later.
func (p *planner) pre(e ast.Expr) int {
	i := len(p.below)
	p.below = append(p.below, e)
	return p.made(func(in *instance) Value { return in.past[i] })
}

// call hands on what is given to an instance of its own, and what goes out of
// that.
func (p *planner) call(e ast.Expr) []int {
	given := each(e.Kids, p.expr)
	at, _ := p.types.Find(e.Name)
	i := len(p.calls)
	p.calls = append(p.calls, p.plans[at])
	to := each(p.plans[at].outs, func(int) int { return p.place(Value{}) })
	p.steps = append(p.steps, func(in *instance) {
		inner := in.inner[i]
		for j, from := range given {
			inner.values[j] = in.values[from]
		}
		inner.instant()
		for j, from := range inner.outs {
			in.values[to[j]] = inner.values[from]
		}
	})
	return to
}
