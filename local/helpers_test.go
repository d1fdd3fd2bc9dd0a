package local_test

import (
	"slices"
	"strconv"
	"strings"
	"testing"

	"mahout/api"
	"mahout/lang"
	"mahout/local"
	"mahout/splits"
)

// counting is the program of the chapter's example.
const counting = `map { each w in value by " " { emit w, "1"; } } reduce { emit key, text(sum(values)); }`

func parsed(t *testing.T, text string) *lang.Program {
	t.Helper()
	p, fault := lang.Parse(text)
	if p == nil || fault != (lang.Fault{}) {
		t.Fatalf("Parse(%q): %v", text, fault)
	}
	return p
}

func job(program string, parts, split, spill int) local.Job {
	return local.Job{Program: program, Parts: parts, Split: split, Spill: spill}
}

// pairs: a list of pairs, of keys and values in turn.
func pairs(texts ...string) []api.Pair {
	var list []api.Pair
	for pair := range slices.Chunk(texts, 2) {
		list = append(list, api.Pair{Key: pair[0], Value: pair[1]})
	}
	return list
}

// records: a list of records, of places and lines in turn.
func records(all ...any) []splits.Record {
	var list []splits.Record
	for pair := range slices.Chunk(all, 2) {
		list = append(list, splits.Record{At: pair[0].(int), Line: pair[1].(string)})
	}
	return list
}

// short writes a text so that a long one can still be read.
func short(text string) string {
	if len(text) > 300 {
		return strconv.Quote(text[:300]) + "..(" + strconv.Itoa(len(text)) + ")"
	}
	return strconv.Quote(text)
}

func shortAll(texts []string) string {
	var list []string
	for _, text := range texts {
		list = append(list, short(text))
	}
	return "[" + strings.Join(list, " ") + "]"
}

func wantParts(t *testing.T, what string, got [][]api.Pair, want ...[]api.Pair) {
	t.Helper()
	if !slices.EqualFunc(got, want, slices.Equal) {
		t.Errorf("%s: %.500q, not %.500q", what, got, want)
	}
}

func wantText(t *testing.T, what, got, want string) {
	t.Helper()
	if got != want {
		t.Errorf("%s: %s, not %s", what, short(got), short(want))
	}
}

// wantRun: Run answers these texts.
func wantRun(t *testing.T, j local.Job, inputs []string, want ...string) {
	t.Helper()
	got, err := local.Run(j, inputs...)
	if err != api.OK || !slices.Equal(got, want) {
		t.Errorf("Run(%.300q of %d, %d, %d; %.300q): %s, %d, not %s", j.Program, j.Parts, j.Split, j.Spill, inputs, shortAll(got), err, shortAll(want))
	}
}

// wantFault: Check and Run of this job answer the error, and nothing beside it.
func wantFault(t *testing.T, j local.Job, want api.Errno) {
	t.Helper()
	if p, err := local.Check(j); p != nil || err != want {
		t.Errorf("Check(%.300q of %d, %d, %d): %v, %d, not %d", j.Program, j.Parts, j.Split, j.Spill, p, err, want)
	}
	for _, inputs := range [][]string{nil, {""}, {"a b\nb\n", "c"}} {
		if texts, err := local.Run(j, inputs...); len(texts) != 0 || err != want {
			t.Errorf("Run(%.300q of %d, %d, %d; %q): %q, %d, not %d", j.Program, j.Parts, j.Split, j.Spill, inputs, texts, err, want)
		}
	}
}
