package lang

import (
	"strings"

	"mahout/api"
)

// maxDigits is how many digits a number may have.
const maxDigits = 9

// The kinds of tokens.
const (
	tokenEnd   = iota // behind the last one stands the end
	tokenFixed        // a mark or a reserved word
	tokenName
	tokenNumber
	tokenText
)

// token is a token of a program: what it stands for, and the place of its first byte. A text is decoded; of all others it is the bytes.
type token struct {
	kind, at int
	text     string
}

// scan: the tokens of a text, and the end behind them.
func scan(text string) ([]token, Fault) {
	var tokens []token
	at, size := 0, 0
next:
	if at == len(text) {
		goto end
	}
	if isBlank(text[at]) {
		at++
		goto next
	}
	size = tokenSize(text[at:])
	if size == 0 {
		goto wrong
	}
	tokens = append(tokens, tokenOf(text[at:at+size], at))
	at += size
	goto next
end:
	return append(tokens, token{kind: tokenEnd, at: at}), Fault{}
wrong:
	return nil, Fault{api.ErrToken, at}
}

func isBlank(b byte) bool {
	return b == ' ' || b == '\t' || b == '\n' || b == '\r'
}

func isDigit(b byte) bool {
	return b >= '0' && b <= '9'
}

func isLetter(b byte) bool {
	return b >= 'A' && b <= 'Z' || b >= 'a' && b <= 'z'
}

func isMark(b byte) bool {
	return strings.IndexByte("{}(),;=", b) >= 0
}

// tokenSize: how many bytes the token has with which s begins; 0, where it begins with none.
func tokenSize(s string) int {
	switch first := s[0]; {
	case isLetter(first):
		return nameSize(s)
	case isDigit(first):
		return numberSize(s)
	case first == '"':
		return textSize(s)
	case isMark(first):
		return 1
	}
	return 0
}

func nameSize(s string) int {
	size := 1
	for size < len(s) && (isLetter(s[size]) || isDigit(s[size])) {
		size++
	}
	return size
}

func numberSize(s string) int {
	size := 1
	for size < len(s) && isDigit(s[size]) {
		size++
	}
	if size > maxDigits || s[0] == '0' && size > 1 {
		return 0
	}
	return size
}

func textSize(s string) int {
	for i := 1; i < len(s); i++ {
		switch {
		case s[i] == '"':
			return i + 1
		case s[i] < 0x20 || s[i] > 0x7E:
			return 0
		case s[i] == '\\':
			i++
			if i == len(s) || strings.IndexByte(`"\nt`, s[i]) < 0 {
				return 0
			}
		}
	}
	return 0
}

// tokenOf: the token that is written so.
func tokenOf(written string, at int) token {
	written = strings.Clone(written) // for of what is handed in nothing is kept
	t := token{kind: tokenFixed, at: at, text: written}
	switch first := written[0]; {
	case first == '"':
		t.kind, t.text = tokenText, decoded(written)
	case isDigit(first):
		t.kind = tokenNumber
	case isLetter(first) && !isReserved(written):
		t.kind = tokenName
	}
	return t
}

func isReserved(word string) bool {
	switch word {
	case "map", "combine", "reduce", "part", "emit", "let", "if", "else", "each", "in", "by", "for":
		return true
	}
	return false
}

// decoded: the text that a token stands for.
func decoded(written string) string {
	return strings.NewReplacer(`\"`, `"`, `\\`, `\`, `\n`, "\n", `\t`, "\t").Replace(written[1 : len(written)-1])
}

// quoted: the token of a text.
func quoted(text string) string {
	return `"` + strings.NewReplacer(`"`, `\"`, `\`, `\\`, "\n", `\n`, "\t", `\t`).Replace(text) + `"`
}
