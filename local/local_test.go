package local_test

import (
	"math"
	"slices"
	"strconv"
	"strings"
	"testing"
	"unsafe"

	"mahout/api"
	"mahout/crc"
	"mahout/lang"
	"mahout/local"
	"mahout/splits"
)

// The chapter's example.
func TestExample(t *testing.T) {
	wantRun(t, job(counting, 1, 4, 2), []string{"a b\nb\n"}, "a\t1\nb\t2\n")
}

// P21.1: the program, where the job is right.
func TestCheck(t *testing.T) {
	for _, text := range []string{
		counting,
		"map{}reduce{}",
		`map { emit value, key; } combine { emit key, last(values); } reduce { } part sub(parts, len(key));`,
		"map { } reduce { }" + strings.Repeat(" ", api.MaxCode-18),
	} {
		for _, j := range []local.Job{
			job(text, 1, 1, 1), job(text, api.MaxParts, math.MaxInt, math.MaxInt), job(text, 3, 1, math.MaxInt), job(text, 7, 4096, 10),
		} {
			p, err := local.Check(j)
			if err != api.OK || lang.Print(p) != lang.Print(parsed(t, text)) {
				t.Errorf("Check(%.100q of %d, %d, %d): %.100q, %d", text, j.Parts, j.Split, j.Spill, lang.Print(p), err)
			}
		}
	}
}

// P21.1, P21.4: a program that isn't one is told ahead of numbers that are wrong.
func TestWrongProgram(t *testing.T) {
	for _, text := range []string{
		"", "map {", "map { }", "?", "map { emit x, key; } reduce { }", "map { emit 1, key; } reduce { }", "map { } reduce { } more", "\xff",
		"map { " + strings.Repeat("if 1 { ", 9) + strings.Repeat("} ", 9) + "} reduce { }",
		"map { } reduce { }" + strings.Repeat(" ", api.MaxCode-17),
	} {
		wantFault(t, job(text, 1, 1, 1), api.ErrProgram)
		wantFault(t, job(text, 0, 1, 1), api.ErrProgram)
		wantFault(t, job(text, api.MaxParts+1, 0, -1), api.ErrProgram)
	}
	wantFault(t, local.Job{}, api.ErrProgram)
}

// P21.1, P21.4
func TestWrongNumbers(t *testing.T) {
	for _, n := range []int{0, -1, math.MinInt} {
		wantFault(t, job(counting, n, 1, 1), api.ErrArg)
		wantFault(t, job(counting, 1, n, 1), api.ErrArg)
		wantFault(t, job(counting, 1, 1, n), api.ErrArg)
		wantFault(t, job(counting, n, n, n), api.ErrArg)
	}
	wantFault(t, job(counting, api.MaxParts+1, 1, 1), api.ErrArg)
	wantFault(t, job(counting, math.MaxInt, 1, 1), api.ErrArg)
}

// P21.2: each record's place is the key, in decimal digits, and its line the value; pairs with one key stand in the records' order.
func TestMap(t *testing.T) {
	p := parsed(t, `map { emit value, key; } reduce { } part 0;`)
	all := records(0, "b", 2, "a", 4, "b", 60, "", 61, "a\tb\n", 70, "\xff", 7, "b", -5, "a", math.MinInt, "z", math.MaxInt, "z")
	want := pairs("", "60", "a", "2", "a", "-5", "a\tb\n", "61", "b", "0", "b", "4", "b", "7", "z", strconv.Itoa(math.MinInt), "z", strconv.Itoa(math.MaxInt), "\xff", "70")
	for _, spill := range []int{math.MinInt, 0, 1, 2, 3, 9, 10, 11, math.MaxInt} {
		wantParts(t, "one part", local.Map(p, job("", 1, 0, spill), all), want)
		wantParts(t, "two parts", local.Map(p, job("", 2, 0, spill), all), want, nil)
	}
	wantParts(t, "no records", local.Map(p, job("", 3, 0, 2), nil), nil, nil, nil)
	long := strings.Repeat("x", 2*api.MaxCell)
	wantParts(t, "a long line", local.Map(p, job("", 1, 0, 2), records(9, long)), pairs(long, "9"))
	wantParts(t, "many pairs of a record", local.Map(parsed(t, counting), job("", 1, 0, 7), records(0, strings.Repeat("a ", 300))),
		slices.Repeat(pairs("a", "1"), api.MaxPieces))
}

// P21.2: of the job only Parts and Spill are looked at, and the program is the one that is handed in.
func TestMapOfAnyJob(t *testing.T) {
	p := parsed(t, counting)
	want := pairs("a", "1", "b", "1", "b", "1")
	for _, text := range []string{"", "map {", counting, `map { } reduce { }`} {
		for _, split := range []int{math.MinInt, 0, 1, math.MaxInt} {
			wantParts(t, text, local.Map(p, job(text, 1, split, 2), records(0, "b a", 4, "b")), want)
		}
	}
}

// P21.2: the parts are counted as layer 20 counts them, and told by the program or by the keys' checksums.
func TestMapParts(t *testing.T) {
	last := parsed(t, `map { emit value, key; } reduce { } part sub(parts, 1);`)
	for _, c := range []struct{ said, is int }{{math.MinInt, 1}, {-1, 1}, {0, 1}, {1, 1}, {2, 2}, {64, 64}, {65, 64}, {math.MaxInt, 64}} {
		want := make([][]api.Pair, c.is)
		want[c.is-1] = pairs("a", "3")
		wantParts(t, strconv.Itoa(c.said)+" parts", local.Map(last, job("", c.said, 1, 1), records(3, "a")), want...)
	}
	want := make([][]api.Pair, 5)
	for _, pair := range pairs("a", "1", "b", "1", "c", "1", "d", "1", "e", "1", "f", "1") {
		k := crc.Sum(pair.Key) % 5
		want[k] = append(want[k], pair)
	}
	wantParts(t, "by checksums", local.Map(parsed(t, counting), job("", 5, 1, 2), records(0, "f e d", 6, "c b a")), want...)
}

// P21.2: a mapper's pairs are combined, whether they were spilled or not.
func TestMapCombines(t *testing.T) {
	p := parsed(t, `map { each w in value by " " { emit w, "1"; } } combine { emit key, text(sum(values)); } reduce { } part 0;`)
	for _, spill := range []int{1, 2, 3, 4, 5, 100} {
		wantParts(t, "sums", local.Map(p, job("", 1, 1, spill), records(0, "b a b", 9, "a c", 20, "b")), pairs("a", "2", "b", "3", "c", "1"))
	}
}

// P21.3: the runs are merged and gathered by key; of keys that are alike the earlier run's values stand ahead.
func TestReduce(t *testing.T) {
	p := parsed(t, `map { } reduce { emit key, join(values, ","); }`)
	one, two, three := pairs("a", "1", "c", "2", "c", "3"), pairs("a", "4", "b", "5", "c", "6"), pairs("\xff", "7", "\xff", "8")
	wantText(t, "three runs", local.Reduce(p, one, two, three), "a\t1,4\nb\t5\nc\t2,3,6\n\xff\t7,8\n")
	wantText(t, "in another order", local.Reduce(p, three, two, nil, one), "a\t4,1\nb\t5\nc\t6,2,3\n\xff\t7,8\n")
	wantText(t, "one run", local.Reduce(p, one), "a\t1\nc\t2,3\n")
	wantText(t, "no run", local.Reduce(p), "")
	wantText(t, "empty runs", local.Reduce(p, nil, nil, []api.Pair{}), "")
	wantText(t, "the empty key", local.Reduce(p, pairs("", "")), "\t\n")
	wantText(t, "tabs and newlines", local.Reduce(p, pairs("\n", "\t", "a\tb", "c\nd")), "\n\t\t\na\tb\tc\nd\n")
	// Of runs that don't rise neighbours alone are gathered, as layer 19's words say.
	wantText(t, "falling runs", local.Reduce(p, pairs("b", "1", "a", "2", "b", "3"), pairs("b", "4")), "b\t1\na\t2\nb\t3,4\n")
}

// P21.3: each pair that comes of a key is a line, in order; keys are as the program makes them.
func TestReduceToManyLines(t *testing.T) {
	p := parsed(t, `map { } reduce { for v in values { emit v, key; } emit "z", text(count(values)); emit "", ""; }`)
	wantText(t, "lines", local.Reduce(p, pairs("k", "9", "k", "1"), pairs("j", "5")), "5\tj\nz\t1\n\t\n9\tk\n1\tk\nz\t2\n\t\n")
	wantText(t, "nothing", local.Reduce(parsed(t, "map { emit value, key; } combine { emit key, key; } reduce { }"), pairs("a", "1")), "")
	many := slices.Repeat(pairs("k", "1"), 3000)
	wantText(t, "many values", local.Reduce(p, many, many), strings.Repeat("1\tk\n", api.MaxPieces)+"z\t6000\n\t\n")
	long := strings.Repeat("x", 2*api.MaxCell)
	wantText(t, "long texts", local.Reduce(p, pairs(long, long)), long+"\t"+long+"\nz\t1\n\t\n")
}

// P21.4: every line of every input is mapped once, in order, whatever the splits and the spills.
func TestRun(t *testing.T) {
	p := `map { emit value, key; } reduce { emit key, join(values, ","); } part 0;`
	inputs := []string{"b\na\nb\n\nb", "a\nb\n", "", "\n", "c"}
	want := "\t6,0\na\t2,0\nb\t0,4,7,2\nc\t0\n"
	for _, split := range []int{1, 2, 3, 4, 5, 9, 10, math.MaxInt} {
		for _, spill := range []int{1, 2, 3, math.MaxInt} {
			wantRun(t, job(p, 1, split, spill), inputs, want)
			wantRun(t, job(p, 2, split, spill), inputs, want, "")
		}
	}
	slices.Reverse(inputs)
	wantRun(t, job(p, 1, 3, 2), inputs, "\t0,6\na\t0,2\nb\t2,0,4,7\nc\t0\n")
}

// P21.4: without lines every part is the empty text; there are Parts of them.
func TestRunOfNothing(t *testing.T) {
	for _, parts := range []int{1, 2, 63, api.MaxParts} {
		empty := make([]string, parts)
		wantRun(t, job(counting, parts, 4, 2), nil, empty...)
		wantRun(t, job(counting, parts, 4, 2), []string{"", "", ""}, empty...)
		wantRun(t, job("map { } reduce { }", parts, 4, 2), []string{"a b\n"}, empty...)
	}
}

// P21.4: part k holds what belongs in it, of all mappers.
func TestRunParts(t *testing.T) {
	byLength := counting + " part len(key);"
	wantRun(t, job(byLength, 3, 5, 2), []string{"a bb ccc\nbb dddd\n", "a eeeee"}, "ccc\t1\n", "a\t2\ndddd\t1\n", "bb\t2\neeeee\t1\n")
	wantRun(t, job(byLength, 1, 5, 2), []string{"bb a"}, "a\t1\nbb\t1\n")
	want := make([]string, 4)
	for _, word := range []string{"a", "b", "c", "d", "e", "f", "g", "h"} {
		want[crc.Sum(word)%4] += word + "\t2\n"
	}
	wantRun(t, job(counting, 4, 7, 3), []string{"h g f e\nd c b a\na b c d e f g h\n"}, want...)
	wantRun(t, job(`map { emit value, ""; } reduce { emit key, ""; } part sub(num(key), 1);`, 3, 2, 2), []string{"0\n1\n2\n3\n-3\n"},
		"1\t\n", "2\t\n", "-3\t\n0\t\n3\t\n")
}

// P21.4: each split of each input is a mapper of its own: what one combines the others don't see.
func TestRunCombinesByMapper(t *testing.T) {
	p := `map { emit "k", value; } combine { emit key, join(values, "+"); } reduce { emit key, join(values, ","); }`
	inputs := []string{"1\n2\n3\n4\n", "5\n6"}
	for _, spill := range []int{1, 2, 3, 100} {
		wantRun(t, job(p, 1, 1, spill), inputs, "k\t1,2,3,4,5,6\n")
		wantRun(t, job(p, 1, 2, spill), inputs, "k\t1,2,3,4,5,6\n")
		wantRun(t, job(p, 1, 3, spill), inputs, "k\t1+2,3,4,5+6\n")
		wantRun(t, job(p, 1, 4, spill), inputs, "k\t1+2,3+4,5+6\n")
		wantRun(t, job(p, 1, 7, spill), inputs, "k\t1+2+3+4,5+6\n")
		wantRun(t, job(p, 1, 100, spill), inputs, "k\t1+2+3+4,5+6\n")
	}
}

// P21.4: an input has at most MaxSplits splits, however small they should be.
func TestRunOfManySplits(t *testing.T) {
	p := `map { emit "k", "1"; } combine { emit key, text(count(values)); } reduce { emit text(count(values)), text(sum(values)); }`
	lines := strings.Repeat("x\n", 2*api.MaxSplits)
	wantRun(t, job(p, 1, 1, 9), []string{lines}, "256\t512\n")
	wantRun(t, job(p, 1, 8, 9), []string{lines}, "128\t512\n")
	wantRun(t, job(p, 1, 1, 9), []string{lines, lines, "x"}, "513\t1025\n")
}

// P21.5
func TestNilProgram(t *testing.T) {
	for _, c := range []struct{ said, is int }{{math.MinInt, 1}, {0, 1}, {1, 1}, {3, 3}, {64, 64}, {65, 64}, {math.MaxInt, 64}} {
		for _, spill := range []int{math.MinInt, 0, 1, 7} {
			wantParts(t, "no records", local.Map(nil, job(counting, c.said, 4, spill), nil), make([][]api.Pair, c.is)...)
			wantParts(t, "records", local.Map(nil, job(counting, c.said, 4, spill), records(0, "a b", 4, "c")), make([][]api.Pair, c.is)...)
		}
	}
	wantText(t, "no run", local.Reduce(nil), "")
	wantText(t, "runs", local.Reduce(nil, pairs("a", "1", "b", "2"), pairs("a", "3")), "")
}

// What is handed in isn't changed, the room behind a list's length included.
func TestNothingIsChanged(t *testing.T) {
	p := parsed(t, counting)
	printed := lang.Print(p)
	lines := records(0, "b a", 4, "c", 6, "b")
	hadLines := slices.Clone(lines)
	local.Map(p, job("", 2, 1, 1), lines[:2])
	if !slices.Equal(lines, hadLines) {
		t.Errorf("Map changed the records: %v", lines)
	}
	room := pairs("b", "1", "a", "2", "c", "3", "x", "4")
	hadRoom := slices.Clone(room)
	runs := [][]api.Pair{room[:1], room[1:2], room[2:3], room[3:]}
	hadRuns := slices.Clone(runs)
	local.Reduce(p, runs[:3]...)
	if !slices.Equal(room, hadRoom) || !slices.EqualFunc(runs, hadRuns, slices.Equal) {
		t.Errorf("Reduce changed the runs: %v", runs)
	}
	inputs := []string{"a", "b", "c"}
	local.Run(job(counting, 2, 1, 1), inputs[:2]...)
	if !slices.Equal(inputs, []string{"a", "b", "c"}) {
		t.Errorf("Run changed the inputs: %q", inputs)
	}
	if lang.Print(p) != printed {
		t.Error("the program was changed")
	}
}

// What is handed in isn't kept, and an answer is new memory: texts that change later change no answer.
func TestNothingIsShared(t *testing.T) {
	bytes := []byte("ab\nab")
	text := unsafe.String(&bytes[0], len(bytes))
	p := parsed(t, `map { emit value, value; } reduce { emit key, first(values); }`)
	mapped := local.Map(p, job("", 1, 1, 1), []splits.Record{{At: 0, Line: text[:2]}, {At: 3, Line: text[3:]}})
	reduced := local.Reduce(p, []api.Pair{{Key: text[:2], Value: text[3:]}})
	run, err := local.Run(job(`map { emit value, value; } reduce { emit key, first(values); }`, 1, 3, 1), text)
	copy(bytes, "xy\nxy")
	wantParts(t, "Map", mapped, pairs("ab", "ab", "ab", "ab"))
	wantText(t, "Reduce", reduced, "ab\tab\n")
	if err != api.OK || !slices.Equal(run, []string{"ab\tab\n"}) {
		t.Errorf("Run: %q, %d", run, err)
	}
}

// Two answers of one call, and the lists of one answer, have nothing to do with one another.
func TestAnswersAreNew(t *testing.T) {
	p := parsed(t, `map { emit value, key; } reduce { } part num(key);`)
	all := records(0, "0", 2, "1")
	one, two := local.Map(p, job("", 2, 1, 1), all), local.Map(p, job("", 2, 1, 1), all)
	one[0] = append(one[0], pairs("x", "y", "z", "w")...)
	clear(one[0])
	wantParts(t, "the other list", one[1:], pairs("1", "2"))
	clear(one[1])
	wantParts(t, "the other answer", two, pairs("0", "0"), pairs("1", "2"))
	j := job(counting, 2, 4, 2)
	first, _ := local.Run(j, "a b\nb\n")
	had := slices.Clone(first)
	second, _ := local.Run(j, "a b\nb\n")
	clear(first)
	if !slices.Equal(second, had) {
		t.Errorf("Run again: %q, not %q", second, had)
	}
	a, _ := local.Check(j)
	b, _ := local.Check(j)
	clear(a.Map)
	if lang.Print(b) != lang.Print(parsed(t, counting)) {
		t.Errorf("Check again: %s", lang.Print(b))
	}
}
