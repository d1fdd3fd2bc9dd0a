package eval_test

import (
	"slices"
	"strconv"
	"strings"
	"testing"

	"mahout/api"
	"mahout/eval"
	"mahout/lang"
)

func parsed(t *testing.T, text string) *lang.Program {
	t.Helper()
	p, fault := lang.Parse(text)
	if p == nil || fault != (lang.Fault{}) {
		t.Fatalf("Parse(%q): %v", text, fault)
	}
	return p
}

// pairs: a list of pairs, of keys and values in turn.
func pairs(texts ...string) []api.Pair {
	var list []api.Pair
	for pair := range slices.Chunk(texts, 2) {
		list = append(list, api.Pair{Key: pair[0], Value: pair[1]})
	}
	return list
}

// short writes pairs so that long ones can still be read.
func short(list []api.Pair) string {
	var b strings.Builder
	for i, p := range list {
		if i == 20 {
			b.WriteString(" ..")
			break
		}
		b.WriteString(" " + clip(p.Key) + "=" + clip(p.Value))
	}
	return strconv.Itoa(len(list)) + ":" + b.String()
}

func clip(t string) string {
	if len(t) > 40 {
		return strconv.Quote(t[:40]) + "..(" + strconv.Itoa(len(t)) + ")"
	}
	return strconv.Quote(t)
}

func wantPairs(t *testing.T, what string, got, want []api.Pair) {
	t.Helper()
	if !slices.Equal(got, want) {
		t.Errorf("%s: %s, not %s", what, short(got), short(want))
	}
}

// mapped: what Map makes with these statements.
func mapped(t *testing.T, body, key, value string) []api.Pair {
	t.Helper()
	return eval.Map(parsed(t, "map { "+body+" } reduce { }"), key, value)
}

// reduced: what Reduce makes with these statements.
func reduced(t *testing.T, body, key string, values []string) []api.Pair {
	t.Helper()
	return eval.Reduce(parsed(t, "map { } reduce { "+body+" }"), key, values)
}

// wantText: an expression over key and value comes to a text.
func wantText(t *testing.T, expr, key, value, want string) {
	t.Helper()
	wantPairs(t, expr, mapped(t, "emit "+expr+", \"\";", key, value), pairs(want, ""))
}

// wantNum: an expression over key and value comes to a number.
func wantNum(t *testing.T, expr, key, value string, want int) {
	t.Helper()
	wantText(t, "text("+expr+")", key, value, strconv.Itoa(want))
}

// wantOfList: an expression (a text) over key and values comes to a text.
func wantOfList(t *testing.T, expr, key string, values []string, want string) {
	t.Helper()
	wantPairs(t, expr, reduced(t, "emit "+expr+", \"\";", key, values), pairs(want, ""))
}
