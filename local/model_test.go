package local_test

import (
	"math"
	"math/rand"
	"slices"
	"strconv"
	"strings"
	"testing"

	"mahout/api"
	"mahout/eval"
	"mahout/lang"
	"mahout/local"
)

// drawer is where the values of keys are put, each key's in their order.
type drawer map[string][]string

func (d drawer) put(list []api.Pair) {
	for _, pair := range list {
		d[pair.Key] = append(d[pair.Key], pair.Value)
	}
}

// keys: rising.
func (d drawer) keys() []string {
	var list []string
	for key := range d {
		list = append(list, key)
	}
	slices.Sort(list)
	return list
}

// cuts: in how many bytes each an input is cut for a job's mappers.
func cuts(input string, split int) int {
	each := split
	if n := len(input); n/each > api.MaxSplits || n/each == api.MaxSplits && n%each > 0 {
		each = n / api.MaxSplits
		if n%api.MaxSplits > 0 {
			each++
		}
	}
	return each
}

// mappers: what each mapper of an input gathers by the words, without splits, runs or parts: a line goes to the mapper in whose piece it begins.
func mappers(p *lang.Program, input string, split int) []drawer {
	if input == "" {
		return nil
	}
	each := cuts(input, split)
	all := make([]drawer, (len(input)-1)/each+1)
	for i := range all {
		all[i] = drawer{}
	}
	at := 0
	for _, line := range strings.Split(strings.TrimSuffix(input, "\n"), "\n") {
		all[at/each].put(eval.Map(p, strconv.Itoa(at), line))
		at += len(line) + 1
	}
	return all
}

// modelled: the texts of a job's parts by the words.
func modelled(p *lang.Program, j local.Job, inputs []string) []string {
	parts := make([]drawer, j.Parts)
	for k := range parts {
		parts[k] = drawer{}
	}
	for _, input := range inputs {
		for _, mapper := range mappers(p, input, j.Split) {
			for _, key := range mapper.keys() {
				for _, pair := range eval.Combine(p, key, mapper[key]) {
					parts[eval.Part(p, pair.Key, j.Parts)].put([]api.Pair{pair})
				}
			}
		}
	}
	texts := make([]string, j.Parts)
	for k, part := range parts {
		for _, key := range part.keys() {
			for _, pair := range eval.Reduce(p, key, part[key]) {
				texts[k] += pair.Key + "\t" + pair.Value + "\n"
			}
		}
	}
	return texts
}

// chosenProgram: one of some programs that map, combine, reduce and part in several ways.
func chosenProgram(r *rand.Rand) string {
	maps := []string{
		`emit value, key;`,
		`each w in value by " " { emit w, "1"; }`,
		`each w in value by "" { emit cut(w, 0, 1), cut(w, 1, 99); emit w, key; }`,
		`if less(value, "b") { emit "low", value; } else { emit upper(value), key; emit value, "2"; }`,
		`each w in value by "a" { emit text(len(w)), cat(key, w); }`,
	}
	combines := []string{
		"",
		"combine { emit key, text(sum(values)); }",
		`combine { emit key, join(values, "+"); }`,
		`combine { for v in values { emit cat("k", cut(v, 0, 1)), v; emit key, v; } }`,
		`combine { if lt(1, count(values)) { emit "many", key; } else { emit "z", first(values); emit "a", last(values); } }`,
	}
	reduces := []string{
		"emit key, text(sum(values));",
		`emit key, join(values, ",");`,
		`for v in values { emit v, key; }`,
		`emit key, first(values); if lt(2, count(values)) { emit text(count(values)), last(values); }`,
	}
	parts := []string{"", "part 1;", "part len(key);", "part num(key);", `part mul(less(key, "b"), sub(0, 1));`}
	one := func(list []string) string { return list[r.Intn(len(list))] }
	return "map { " + one(maps) + " } " + one(combines) + " reduce { " + one(reduces) + " } " + one(parts)
}

// chosenInputs: some inputs of few words and many ends of lines.
func chosenInputs(r *rand.Rand, most int) []string {
	words := []string{"a", "b", "ab", "ba", " ", " ", "\n", "\n", "\n\n", "é", "\xff", "\t", "\r", "7", "-3"}
	var inputs []string
	for range r.Intn(5) {
		var b strings.Builder
		for range r.Intn(most + 1) {
			b.WriteString(words[r.Intn(len(words))])
		}
		inputs = append(inputs, b.String())
	}
	return inputs
}

// P21.2 to P21.4: any jobs and inputs come to what the words say.
func TestAnyJobs(t *testing.T) {
	r := rand.New(rand.NewSource(1))
	for range 3000 {
		j := job(chosenProgram(r), 1+r.Intn(5), 1+r.Intn(20), 1+r.Intn(9))
		inputs := chosenInputs(r, 60)
		wantRun(t, j, inputs, modelled(parsed(t, j.Program), j, inputs)...)
		if t.Failed() {
			t.FailNow()
		}
	}
}

// P21.4: long inputs, of which more than MaxSplits splits would come.
func TestAnyLongInputs(t *testing.T) {
	r := rand.New(rand.NewSource(2))
	for range 60 {
		j := job(chosenProgram(r), 1+r.Intn(api.MaxParts), 1+r.Intn(6), 1+r.Intn(50))
		inputs := chosenInputs(r, 1500)
		wantRun(t, j, inputs, modelled(parsed(t, j.Program), j, inputs)...)
	}
}

// P21.4: what Run answers doesn't hang on Spill; nor, without combine, on Split.
func TestAnySpill(t *testing.T) {
	r := rand.New(rand.NewSource(3))
	for range 200 {
		j, inputs := job(chosenProgram(r), 1+r.Intn(4), 1+r.Intn(30), 1), chosenInputs(r, 80)
		want := modelled(parsed(t, j.Program), j, inputs)
		for _, spill := range []int{1, 2, 5, 50, math.MaxInt} {
			j.Spill = spill
			wantRun(t, j, inputs, want...)
		}
		if !strings.Contains(j.Program, "combine") {
			for _, split := range []int{1, 7, 100, math.MaxInt} {
				j.Split = split
				wantRun(t, j, inputs, want...)
			}
		}
	}
}
