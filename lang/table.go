package lang

// kind is what an expression comes to.
type kind byte

// The kinds.
const (
	aNumber kind = 'n'
	aText   kind = 't'
	aList   kind = 'l'
)

// function is a function of the language: its name, its arguments' kinds, a letter each, and its answer's kind.
type function struct {
	name, takes string
	gives       kind
}

var functions = [...]function{
	{"add", "nn", aNumber},
	{"sub", "nn", aNumber},
	{"mul", "nn", aNumber},
	{"div", "nn", aNumber},
	{"len", "t", aNumber},
	{"num", "t", aNumber},
	{"text", "n", aText},
	{"cat", "tt", aText},
	{"cut", "tnn", aText},
	{"upper", "t", aText},
	{"lower", "t", aText},
	{"eq", "tt", aNumber},
	{"less", "tt", aNumber},
	{"lt", "nn", aNumber},
	{"not", "n", aNumber},
	{"and", "nn", aNumber},
	{"or", "nn", aNumber},
	{"sum", "l", aNumber},
	{"count", "l", aNumber},
	{"first", "l", aText},
	{"last", "l", aText},
	{"join", "lt", aText},
	{"max", "l", aNumber},
	{"min", "l", aNumber},
}

// functionOf: the function of this name; false, where there is none.
func functionOf(name string) (function, bool) {
	for _, f := range functions {
		if f.name == name {
			return f, true
		}
	}
	return function{}, false
}
