package console

import "mahout/world"

// noAct is the Kind of no Act.
const noAct = 0

// The kinds of fields.
const (
	noField = 0
	aNumber = 'n'
	aText   = 't'
)

// word is a word with which a line begins: the Kind of the Act that the line is, the fields behind the word, a letter each, and of which kind any number more may follow.
type word struct {
	says  string
	act   int
	takes string
	more  byte
}

var words = [...]word{
	{"nodes", noAct, "n", noField},
	{"replicas", noAct, "n", noField},
	{"block", noAct, "n", noField},
	{"room", noAct, "n", noField},
	{"rounds", noAct, "n", noField},
	{"flips", noAct, "", noField},
	{"choose", noAct, "n", aNumber},
	{"client", noAct, "", noField},
	{"mkdir", world.Mkdir, "t", noField},
	{"create", world.Create, "t", noField},
	{"append", world.Append, "tt", noField},
	{"close", world.Close, "t", noField},
	{"delete", world.Delete, "t", noField},
	{"rename", world.Rename, "tt", noField},
	{"limit", world.Limit, "tn", noField},
	{"read", world.Read, "t", noField},
	{"list", world.List, "t", noField},
	{"submit", world.Submit, "ttnnnt", aText},
	{"status", world.Status, "t", noField},
}

// wordOf: the word that a field is; false, where it is none.
func wordOf(f field) (word, bool) {
	for _, w := range words {
		if w.says == f.text && !f.quoted {
			return w, true
		}
	}
	return word{}, false
}

// wordOfAct: the word of an Act of this Kind; false, where none has it.
func wordOfAct(kind int) (word, bool) {
	for _, w := range words {
		if w.act == kind && kind != noAct {
			return w, true
		}
	}
	return word{}, false
}

// fits: may these fields stand behind the word?
func (w word) fits(fields []field) bool {
	least := len(w.takes)
	if len(fields) < least || len(fields) > least && w.more == noField {
		return false
	}
	for i, f := range fields {
		kind := w.more
		if i < least {
			kind = w.takes[i]
		}
		if kind == aNumber && !f.isNumber {
			return false
		}
	}
	return true
}
