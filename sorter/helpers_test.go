package sorter_test

import (
	"math/rand"
	"slices"
	"strconv"
	"strings"
	"testing"

	"mahout/api"
	"mahout/lang"
	"mahout/sorter"
)

func parsed(t *testing.T, text string) *lang.Program {
	t.Helper()
	p, fault := lang.Parse(text)
	if p == nil || fault != (lang.Fault{}) {
		t.Fatalf("Parse(%q): %v", text, fault)
	}
	return p
}

// combining: a program with this combine (a text with its word and its braces, or an empty one) and this part expression (or none).
func combining(t *testing.T, combine, part string) *lang.Program {
	t.Helper()
	if part != "" {
		part = "part " + part + ";"
	}
	return parsed(t, "map { } "+combine+" reduce { } "+part)
}

// pairs: a list of pairs, of keys and values in turn.
func pairs(texts ...string) []api.Pair {
	var list []api.Pair
	for pair := range slices.Chunk(texts, 2) {
		list = append(list, api.Pair{Key: pair[0], Value: pair[1]})
	}
	return list
}

// short writes lists of pairs so that long ones can still be read.
func short(parts [][]api.Pair) string {
	var b strings.Builder
	for k, part := range parts {
		b.WriteString(" [" + strconv.Itoa(k) + ":")
		for i, p := range part {
			if i == 20 {
				b.WriteString(" ..")
				break
			}
			b.WriteString(" " + strconv.Quote(p.Key) + "=" + strconv.Quote(p.Value))
		}
		b.WriteString("]")
	}
	return strconv.Itoa(len(parts)) + " parts" + b.String()
}

func wantParts(t *testing.T, what string, got [][]api.Pair, want ...[]api.Pair) {
	t.Helper()
	if !slices.EqualFunc(got, want, slices.Equal) {
		t.Errorf("%s: %s, not %s", what, short(got), short(want))
	}
}

func wantRuns(t *testing.T, s *sorter.Sorter, want int) {
	t.Helper()
	if got := s.Runs(); got != want {
		t.Errorf("Runs: %d, not %d", got, want)
	}
}

// finished: what a new sorter comes to with these pairs.
func finished(p *lang.Program, parts, limit int, list []api.Pair) [][]api.Pair {
	s := sorter.New(p, parts, limit)
	s.Add(list...)
	return s.Finish()
}

// chosen: so many pairs of few keys, whose values are numbers.
func chosen(r *rand.Rand, n int) []api.Pair {
	keys := []string{"k", "", "a", "aa", "ab", "b", "B", "é", "\xff", "\x00", "7", "-3"}
	keys = keys[:1+r.Intn(len(keys))]
	var list []api.Pair
	for i := range n {
		list = append(list, api.Pair{Key: keys[r.Intn(len(keys))], Value: strconv.Itoa(i)})
	}
	return list
}

// chosenProgram: one of some programs that combine and part in several ways.
func chosenProgram(t *testing.T, r *rand.Rand) *lang.Program {
	t.Helper()
	combines := []string{
		"",
		"combine { }",
		"combine { emit key, text(sum(values)); }",
		`combine { emit key, join(values, ","); }`,
		`combine { for v in values { emit cat("k", cut(v, 0, 1)), v; emit key, v; } }`,
		`combine { if lt(1, count(values)) { emit "many", key; } else { emit "z", first(values); emit "a", last(values); } }`,
	}
	parts := []string{"", "0", "len(key)", "num(key)", "sub(parts, 1)", `mul(less(key, "b"), sub(0, 1))`}
	return combining(t, combines[r.Intn(len(combines))], parts[r.Intn(len(parts))])
}
