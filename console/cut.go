package console

import (
	"strconv"
	"strings"
)

// mostNumber is the greatest number of nine digits.
const mostNumber = 999999999

// field is a field of a line: what it stands for, whether it was quoted, and the number that it is, if it is one.
type field struct {
	text     string
	quoted   bool
	number   int
	isNumber bool
}

// cut: the fields of a line; false, where they can't be cut.
func cut(line string) ([]field, bool) {
	var fields []field
	var next field
	at, size := 0, 0
further:
	if at == len(line) {
		goto end
	}
	if line[at] == ' ' {
		at++
		goto further
	}
	if next, size = firstField(line[at:]); size == 0 {
		goto wrong
	}
	at += size
	if at < len(line) && line[at] != ' ' {
		goto wrong
	}
	fields = append(fields, next)
	goto further
end:
	return fields, true
wrong:
	return nil, false
}

// firstField: the field with which s begins, and how many bytes it takes; 0, where s begins with none.
func firstField(s string) (field, int) {
	if s[0] == '"' {
		text, size := unquoted(s)
		return field{text: text, quoted: true}, size
	}
	size := strings.IndexAny(s, ` "`)
	if size < 0 {
		size = len(s)
	}
	f := field{text: strings.Clone(s[:size])} // for of what is handed in nothing is kept
	f.number, f.isNumber = numberOf(f.text)
	return f, size
}

// numberOf: the number that a text writes; false, where it writes none.
func numberOf(text string) (int, bool) {
	n, err := strconv.Atoi(text)
	if err != nil || n < -mostNumber || n > mostNumber || strconv.Itoa(n) != text {
		return 0, false
	}
	return n, true
}
