package parse_test

import (
	"maps"
	"slices"
	"strings"

	"shuttlecock/lex"
)

// theRules are the chapter's, with what may come again, or may lack, as rules
// of their own: behind a rule's name the ways to go on, with bars between. A
// word of small letters or a sign is a token; name and number are any.
const theRules = `
Program: | Node Program
Node: node name ( Ins ) returns ( Variables ) ; Locals let Equations tel
Ins: | Variables
Variables: Group MoreGroups
MoreGroups: | ; Group MoreGroups
Locals: | var Group ; LocalGroups
LocalGroups: | Group ; LocalGroups
Group: Names : Type
Names: name MoreNames
MoreNames: | , name MoreNames
Type: int | bool
Equations: | Equation Equations
Equation: Left = Expression ;
Left: name | ( Names )
Expression: if Expression then Expression else Expression | L0
L0: L1 R0
R0: | -> L0
L1: L2 R1
R1: | => L1
L2: L3 R2
R2: | or L3 R2 | xor L3 R2
L3: L4 R3
R3: | and L4 R3
L4: L5 R4
R4: | = L5 | <> L5 | < L5 | <= L5 | > L5 | >= L5
L5: L6 R5
R5: | + L6 R5 | - L6 R5
L6: L7 R6
R6: | * L7 R6 | div L7 R6 | mod L7 R6
L7: - L7 | not L7 | pre L7 | Atom
Atom: number | true | false | name | name ( Operands ) | ( Expression )
Operands: | Expression MoreOperands
MoreOperands: | , Expression MoreOperands
`

// grammar has the ways of each rule, and what has been found of states and
// tokens. A state is what is to come yet, in order, with a blank behind each.
type grammar struct {
	ways    map[string][]string
	opened  map[string][]string
	classes map[string]string
}

func newGrammar() grammar {
	g := grammar{ways: map[string][]string{}, opened: map[string][]string{}, classes: map[string]string{}}
	for _, line := range strings.Split(strings.TrimSpace(theRules), "\n") {
		name, ways, _ := strings.Cut(line, ": ")
		for _, way := range strings.Split(" "+ways, " |") {
			if way = strings.TrimSpace(way); way != "" {
				way += " "
			}
			g.ways[name] = append(g.ways[name], way)
		}
	}
	return g
}

// open are the states that a state may be by its first rule: each of them has
// a token ahead, or is empty.
func (g grammar) open(state string) []string {
	first, rest, _ := strings.Cut(state, " ")
	if g.ways[first] == nil {
		return []string{state}
	}
	all, known := g.opened[state]
	if !known {
		for _, way := range g.ways[first] {
			all = append(all, g.open(way+rest)...)
		}
		g.opened[state] = all
	}
	return all
}

// states are all ways to go on behind some tokens.
type states map[string]bool

func (g grammar) begin(rule string) states {
	all := states{}
	for _, s := range g.open(rule + " ") {
		all[s] = true
	}
	return all
}

// behind are the ways to go on behind a token: none, if it does not go on so.
func (g grammar) behind(from states, token string) states {
	all := states{}
	for s := range from {
		if first, rest, _ := strings.Cut(s, " "); first == g.class(token) {
			for _, x := range g.open(rest) {
				all[x] = true
			}
		}
	}
	return all
}

// class is what the rules have for a token.
func (g grammar) class(token string) string {
	if g.classes[token] == "" {
		tokens, _, _ := lex.Lex(token)
		g.classes[token] = map[int]string{lex.Name: "name", lex.Number: "number", lex.Word: token, lex.Sign: token}[tokens[0].Kind]
	}
	return g.classes[token]
}

// ends: may a program end here?
func (from states) ends() bool {
	return from[""]
}

// tokens are those that may come next, in order.
func (from states) tokens() []string {
	all := map[string]bool{}
	for s := range from {
		if first, _, _ := strings.Cut(s, " "); first != "" {
			all[first] = true
		}
	}
	return slices.Sorted(maps.Keys(all))
}

// nearest is how many things have to come yet, at the least.
func (from states) nearest() int {
	least := 1 << 30
	for s := range from {
		least = min(least, strings.Count(s, " "))
	}
	return least
}
