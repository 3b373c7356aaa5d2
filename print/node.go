package print

import (
	"strings"

	"shuttlecock/ast"
)

// The types' words, by their numbers.
var types = [...]string{"int", "bool"}

// writer has what has been written so far.
type writer struct {
	strings.Builder
}

// put puts texts behind it.
func (w *writer) put(texts ...string) {
	for _, s := range texts {
		w.WriteString(s)
	}
}

func (w *writer) node(n ast.Node) {
	w.put("node ", n.Name, "(", variables(n.Ins), ") returns (", variables(n.Outs), ");\n")
	if len(n.Locals) > 0 {
		w.put("var ", variables(n.Locals), ";\n")
	}
	w.put("let\n")
	for _, q := range n.Eqs {
		w.put("  ", left(q.Lhs), " = ")
		w.expr(q.Rhs)
		w.put(";\n")
	}
	w.put("tel\n")
}

func variables(all []ast.Variable) string {
	var texts []string
	for _, v := range all {
		texts = append(texts, v.Name+": "+types[v.Type])
	}
	return strings.Join(texts, "; ")
}

func left(names []string) string {
	if len(names) == 1 {
		return names[0]
	}
	return "(" + strings.Join(names, ", ") + ")"
}
