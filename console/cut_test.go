package console_test

import (
	"strings"
	"testing"

	"mahout/api"
	"mahout/world"
)

// wantFields: what is written so are fields that stand for these texts (a Submit's Inputs).
func wantFields(t *testing.T, written string, texts ...string) {
	t.Helper()
	s := parsed(t, "client\nsubmit w o 1 1 1 g "+written)
	if len(s.Acts) != 1 || len(s.Acts[0]) != 1 || strings.Join(s.Acts[0][0].Job.Inputs, "|") != strings.Join(texts, "|") {
		t.Errorf("%q: %v, not %q", written, s.Acts, texts)
	}
}

// P26.1: fields that aren't quoted: any bytes but blanks and quotes.
func TestPlainFields(t *testing.T) {
	wantFields(t, "")
	wantFields(t, "   ")
	wantFields(t, "a", "a")
	wantFields(t, " a  b   c ", "a", "b", "c")
	wantFields(t, `\ \\ \x41 a\`, `\`, `\\`, `\x41`, `a\`)
	for b := range 256 {
		c := string([]byte{byte(b)})
		if c == " " || c == "\"" || c == "\n" {
			continue
		}
		wantFields(t, "a"+c+"b "+c, "a"+c+"b", c)
	}
}

// P26.1: quoted texts.
func TestQuotedFields(t *testing.T) {
	for written, text := range map[string]string{
		`""`: "", `" "`: " ", `"a b"`: "a b", `"\""`: `"`, `"\\"`: `\`, `"\\\""`: `\"`, `"\\x41"`: `\x41`, `"\x41"`: "A", `"\x00\xFF\x0A"`: "\x00\xff\n", `"\x4142"`: "A42", `"\x22\x5C"`: `"\`, `"#"`: "#", `"\"\"\\\\"`: `""\\`,
	} {
		wantFields(t, written, text)
		wantFields(t, written+" "+written, text, text)
		wantFields(t, " a  "+written+"   b", "a", text, "b")
	}
	for b := range 256 {
		c := string([]byte{byte(b)})
		line := "client\nread \"a" + c + "b\""
		if c == `"` || c == `\` || b < 0x20 || b > 0x7E { // of a newline: the text isn't ended in its line
			wantFault(t, line, api.ErrToken, 2)
		} else {
			wantScript(t, line, world.Script{Acts: [][]world.Act{{{Kind: world.Read, Path: "a" + c + "b"}}}})
		}
	}
}

// P26.1: behind a stroke.
func TestStrokes(t *testing.T) {
	for b := range 256 {
		c := string([]byte{byte(b)})
		if c == `"` || c == `\` {
			wantFields(t, `"a\`+c+`b"`, "a"+c+"b")
		} else {
			wantFault(t, "client\nread "+`"a\`+c+`b"`, api.ErrToken, 2)
		}
	}
	const digits = "0123456789ABCDEF"
	for b := range 256 {
		c := string([]byte{byte(b)})
		if at := strings.Index(digits, c); at >= 0 {
			wantFields(t, `"\x`+c+`7\x4`+c+`"`, string([]byte{byte(16*at + 7), byte(64 + at)}))
			continue
		}
		wantFault(t, "client\nread "+`"\x`+c+`7"`, api.ErrToken, 2)
		wantFault(t, "client\nread "+`"\x7`+c+`"`, api.ErrToken, 2)
	}
	for _, written := range []string{`"\`, `"\"`, `"\x`, `"\x"`, `"\x4`, `"\x4"`, `"\x41`, `"\X41"`, `"\n"`, `"\\\"`, `"a`, `"`, `" `} {
		wantFault(t, "client\nread "+written, api.ErrToken, 2)
		wantFault(t, "client\nread b "+written+" c", api.ErrToken, 2)
	}
}

// P26.1: behind a quoted text and ahead of it a blank, or the line's end or beginning.
func TestAroundQuotedFields(t *testing.T) {
	for b := range 256 {
		c := string([]byte{byte(b)})
		if c == " " || c == "\n" {
			continue
		}
		wantFault(t, "client\nread \"a\""+c, api.ErrToken, 2)
		wantFault(t, "client\nread b"+c+"\"a\"", api.ErrToken, 2)
		wantFault(t, "client\nappend \"a\""+c+" b", api.ErrToken, 2)
	}
	for _, line := range []string{`""""`, `"a""b"`, `read"a"`, `"read"a`, `read a"`, `read a"b`, `read a""`, `x"`, ` "a"b`} {
		wantFault(t, line, api.ErrToken, 1)
	}
	wantFault(t, `"a" "b"`, api.ErrCommand, 1)
	wantFault(t, ` "a"`, api.ErrCommand, 1)
}
