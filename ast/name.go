package ast

// mostLetters is how many bytes a name may have.
const mostLetters = 60

// words are the language's own words: none of them is a name. Whoever asks of
// many names makes them once, and asks them.
type words map[string]bool

func allWords() words {
	return words{
		"and": true, "bool": true, "const": true, "div": true, "else": true, "false": true, "if": true,
		"int": true, "let": true, "mod": true, "node": true, "not": true, "or": true, "pre": true,
		"returns": true, "tel": true, "then": true, "true": true, "var": true, "xor": true,
	}
}

// Name: is it a name?
func Name(s string) bool {
	return allWords().name(s)
}

// Word: is it one of the words?
func Word(s string) bool {
	return allWords()[s]
}

// name: is it a name?
func (w words) name(s string) bool {
	if s == "" || len(s) > mostLetters || digit(s[0]) {
		return false
	}
	for _, c := range []byte(s) {
		if !letter(c) && !digit(c) {
			return false
		}
	}
	return !w[s]
}

// letter: may a name begin with it?
func letter(c byte) bool {
	return 'a' <= c && c <= 'z' || 'A' <= c && c <= 'Z' || c == '_'
}

func digit(c byte) bool {
	return '0' <= c && c <= '9'
}
