package console

import "strings"

// hexDigits stand each at the place that it is worth.
const hexDigits = "0123456789ABCDEF"

// isPlain: may a byte stand as it is in a quoted text, if need be behind a stroke?
func isPlain(b byte) bool {
	return b >= ' ' && b <= '~'
}

// quoted: a text as a quoted field.
func quoted(text string) string {
	made := []byte{'"'}
	for i := range len(text) {
		switch b := text[i]; {
		case !isPlain(b):
			made = append(made, '\\', 'x', hexDigits[b>>4], hexDigits[b&15])
		case b == '"' || b == '\\':
			made = append(made, '\\', b)
		default:
			made = append(made, b)
		}
	}
	return string(append(made, '"'))
}

// unquoted: what the quoted text stands for with which s begins, and how many bytes it takes; 0, where s begins with none.
func unquoted(s string) (string, int) {
	var made []byte
	for at := 1; at < len(s); {
		if s[at] == '"' {
			return string(made), at + 1
		}
		b, size := unquotedByte(s[at:])
		if size == 0 {
			break
		}
		made = append(made, b)
		at += size
	}
	return "", 0
}

// unquotedByte: the byte for which the first bytes of s stand in a quoted text, and how many these are; 0, where they stand for none.
func unquotedByte(s string) (byte, int) {
	switch {
	case !isPlain(s[0]):
		return 0, 0
	case s[0] != '\\':
		return s[0], 1
	case len(s) >= 2 && (s[1] == '"' || s[1] == '\\'):
		return s[1], 2
	case len(s) >= 4 && s[1] == 'x':
		high, low := strings.IndexByte(hexDigits, s[2]), strings.IndexByte(hexDigits, s[3])
		if high >= 0 && low >= 0 {
			return byte(high<<4 | low), 4
		}
	}
	return 0, 0
}
