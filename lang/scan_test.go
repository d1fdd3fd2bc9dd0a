package lang_test

import (
	"strings"
	"testing"

	"mahout/api"
)

// P16.1: a byte that begins no token, wherever it stands.
func TestBytesThatBeginNoToken(t *testing.T) {
	const begin = "{}(),;=\"0123456789 \t\n\r"
	for b := range 256 {
		c := string([]byte{byte(b)})
		if strings.Contains(begin, c) || c >= "A" && c <= "Z" || c >= "a" && c <= "z" {
			continue
		}
		wantFault(t, c, api.ErrToken, 0)
		wantFault(t, "map { emit key"+c+"x"+", \"1\"; } reduce { }", api.ErrToken, 14)
		wantFault(t, inMap("")+" \n"+c, api.ErrToken, len(inMap(""))+2)
		wantFault(t, "1"+c, api.ErrToken, 1)
	}
}

// P16.1: numbers of one to nine digits, without noughts ahead.
func TestNumbers(t *testing.T) {
	for _, n := range []string{"0", "1", "9", "10", "100", "123456789", "999999999", "100000000"} {
		takes(t, inMap("if "+n+" { }"), inMap("if "+n+"{}"))
	}
	for _, n := range []string{"00", "01", "007", "0000000000", "1000000000", "9999999999", "0123456789", strings.Repeat("1", 100), "9223372036854775808", "18446744073709551617"} {
		refuses(t, api.ErrToken, inMap("if @"+n+" { }"), inMap("if @"+n+"{}"), "@"+n, inMap("let a = 1; let b = not(@"+n+");"))
	}
	refuses(t, api.ErrToken, inMap("if @-1 { }"), inMap("if 1@.5 { }"), inMap("if @+1 { }"), inMap("let a@_b = 1;"))
}

// P16.1: of a text any byte but the printable ones, a quote and a stroke.
func TestBytesOfTexts(t *testing.T) {
	for b := range 256 {
		c := string([]byte{byte(b)})
		text := `map { emit key, @"a` + c + `b"; } reduce { }`
		switch {
		case c == `"`: // it ends there, and another text begins, which isn't ended
			wantFault(t, `map { emit key, "a"b"; } reduce { }`, api.ErrToken, 20)
		case b < 0x20 || b > 0x7E || c == `\`:
			refuses(t, api.ErrToken, text)
		default:
			if got := parsed(t, strings.Replace(text, "@", "", 1)).Map[0].B.Text; got != "a"+c+"b" {
				t.Errorf("the text with %q: %q", c, got)
			}
		}
	}
}

// P16.1: behind a stroke a quote, a stroke, n or t alone.
func TestStrokes(t *testing.T) {
	meant := map[string]string{`"`: `"`, `\`: `\`, "n": "\n", "t": "\t"}
	for b := range 256 {
		c := string([]byte{byte(b)})
		text := `map { emit key, @"a\` + c + `b"; } reduce { }`
		if m, ok := meant[c]; !ok {
			refuses(t, api.ErrToken, text)
		} else if got := parsed(t, strings.Replace(text, "@", "", 1)).Map[0].B.Text; got != "a"+m+"b" {
			t.Errorf("a stroke and %q: %q", c, got)
		}
	}
	for written, text := range map[string]string{
		`\\n`: `\n`, `\\\n`: "\\\n", `\\\\t`: `\\t`, `\"\"`: `""`, `\n\t\\\"`: "\n\t\\\"", `n\nt\t`: "n\nt\t", `\\\"`: `\"`, ``: ``, ` `: ` `,
	} {
		if got := parsed(t, inMap(`emit key, "`+written+`";`)).Map[0].B.Text; got != text {
			t.Errorf("the text %s: %q, not %q", written, got, text)
		}
	}
}

// P16.1: a text that isn't ended.
func TestTextsWithoutEnd(t *testing.T) {
	refuses(t, api.ErrToken, `@"`, `@"a`, `@"\`, `@"\"`, `@"a\\\"`, `map { emit key, @"a; } reduce { }`, `"" @"`, `"a\"b" @"\"`, "@\"a\n\"", `"\\" @"`)
	refuses(t, api.ErrSyntax, `@""`, `@"\\"`, `@"a\"" "b"`)
}

// P16.1: all tokens are looked at first, and the first that isn't one is told.
func TestTokensFirst(t *testing.T) {
	refuses(t, api.ErrToken, "} } } @?", "map { emit x, 1; } reduce { } @%", "map { emit @01, ?; }", `let @"\x" 01`, "@? \"", strings.Repeat("{", 100)+"@#", "map map @00")
}
