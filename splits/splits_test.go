package splits_test

import (
	"math"
	"math/rand"
	"slices"
	"strconv"
	"strings"
	"testing"
	"unsafe"

	"mahout/api"
	"mahout/splits"
)

func split(from, to int) splits.Split {
	return splits.Split{From: from, To: to}
}

// wantPlan: the places at which the splits end, the first of them beginning at 0.
func wantPlan(t *testing.T, size, want int, ends ...int) {
	t.Helper()
	var plan []splits.Split
	from := 0
	for _, to := range ends {
		plan = append(plan, split(from, to))
		from = to
	}
	if got := splits.Plan(size, want); !slices.Equal(got, plan) {
		t.Errorf("Plan(%d, %d): %v, not %v", size, want, got, plan)
	}
}

// P18.1: splits lie one behind the other, the last one is of what is left.
func TestPlan(t *testing.T) {
	wantPlan(t, 10, 4, 4, 8, 10)
	wantPlan(t, 8, 4, 4, 8)
	wantPlan(t, 9, 4, 4, 8, 9)
	wantPlan(t, 4, 4, 4)
	wantPlan(t, 3, 4, 3)
	wantPlan(t, 1, 1, 1)
	wantPlan(t, 3, 1, 1, 2, 3)
	wantPlan(t, 10, math.MaxInt, 10)
	wantPlan(t, math.MaxInt, math.MaxInt, math.MaxInt)
	wantPlan(t, math.MaxInt, math.MaxInt-1, math.MaxInt-1, math.MaxInt)
	wantPlan(t, math.MaxInt, 1<<62, 1<<62, math.MaxInt)
}

// P18.1: of no bytes there are no splits; a want below 1 counts as 1.
func TestPlanOfWrongNumbers(t *testing.T) {
	for _, want := range []int{math.MinInt, -1, 0, 1, 4, math.MaxInt} {
		wantPlan(t, 0, want)
		wantPlan(t, -1, want)
		wantPlan(t, math.MinInt, want)
	}
	for _, want := range []int{math.MinInt, -1, 0} {
		wantPlan(t, 1, want, 1)
		wantPlan(t, 3, want, 1, 2, 3)
	}
}

// P18.1: there are at most MaxSplits splits; then the least want counts with which there aren't more.
func TestPlanOfMany(t *testing.T) {
	for _, c := range []struct {
		size, want  int
		count, each int
	}{
		{256, 1, 256, 1},
		{257, 1, 129, 2},
		{257, 2, 129, 2},
		{511, 1, 256, 2},
		{512, 1, 256, 2},
		{512, 0, 256, 2},
		{513, 1, 171, 3},
		{513, 2, 171, 3},
		{513, 3, 171, 3},
		{1024, 4, 256, 4},
		{1025, 4, 205, 5},
		{1025, 5, 205, 5},
		{1025, 6, 171, 6},
		{1 << 31, 1, 256, 1 << 23},
		{1<<31 + 1, 1, 256, 1<<23 + 1},
		{math.MaxInt, 1, 256, 1 << 55},
		{math.MaxInt, 1<<55 - 1, 256, 1 << 55},
		{math.MaxInt - 254, -7, 256, 1 << 55},
		{1<<63 - 256, 1, 256, 1<<55 - 1},
	} {
		var ends []int
		for i := 1; i < c.count; i++ {
			ends = append(ends, i*c.each)
		}
		wantPlan(t, c.size, c.want, append(ends, c.size)...)
	}
}

// records: a list of records, of places and lines in turn.
func records(all ...any) []splits.Record {
	var list []splits.Record
	for pair := range slices.Chunk(all, 2) {
		list = append(list, splits.Record{At: pair[0].(int), Line: pair[1].(string)})
	}
	return list
}

func wantRecords(t *testing.T, data string, from, to int, want []splits.Record) {
	t.Helper()
	if got := splits.Records(data, split(from, to)); !slices.Equal(got, want) {
		t.Errorf("Records(%.60q, %d to %d): %v, not %v", data, from, to, got, want)
	}
}

// P18.2: a line belongs to the split in which its first byte stands.
func TestRecords(t *testing.T) {
	data := "ab\ncd\n\ne"
	wantRecords(t, data, 0, 3, records(0, "ab"))
	wantRecords(t, data, 3, 7, records(3, "cd", 6, ""))
	wantRecords(t, data, 7, 9, records(7, "e"))
	wantRecords(t, data, 0, 8, records(0, "ab", 3, "cd", 6, "", 7, "e"))
	wantRecords(t, data, 0, 1, records(0, "ab"))
	wantRecords(t, data, 0, 4, records(0, "ab", 3, "cd"))
	wantRecords(t, data, 1, 3, nil)
	wantRecords(t, data, 2, 3, nil)
	wantRecords(t, data, 2, 4, records(3, "cd"))
	wantRecords(t, data, 4, 6, nil)
	wantRecords(t, data, 5, 7, records(6, ""))
	wantRecords(t, data, 6, 7, records(6, ""))
	wantRecords(t, data, 6, 8, records(6, "", 7, "e"))
	wantRecords(t, data, 8, 9, nil)
}

// P18.2: at the end of data no line begins; blanks and other bytes are a line's.
func TestLines(t *testing.T) {
	wantRecords(t, "", 0, 9, nil)
	wantRecords(t, "\n", 0, 9, records(0, ""))
	wantRecords(t, "\n\n", 0, 9, records(0, "", 1, ""))
	wantRecords(t, "\n\n", 1, 9, records(1, ""))
	wantRecords(t, "\n\n", 2, 9, nil)
	wantRecords(t, "a", 0, 9, records(0, "a"))
	wantRecords(t, "a\n", 0, 9, records(0, "a"))
	wantRecords(t, "a\n", 2, 9, nil)
	wantRecords(t, "a\n\n", 0, 9, records(0, "a", 2, ""))
	wantRecords(t, "\na", 0, 9, records(0, "", 1, "a"))
	wantRecords(t, " a\r\n\t\x00\xff\r\u2028b\v\f\n", 0, 99, records(0, " a\r", 4, "\t\x00\xff\r\u2028b\v\f"))
}

// P18.2: any split, also one that no file has.
func TestRecordsOfWrongSplits(t *testing.T) {
	data, all := "ab\ncd", records(0, "ab", 3, "cd")
	wantRecords(t, data, -1, 5, all)
	wantRecords(t, data, math.MinInt, math.MaxInt, all)
	wantRecords(t, data, math.MinInt, 1, all[:1])
	wantRecords(t, data, math.MinInt, 0, nil)
	wantRecords(t, data, math.MinInt, math.MinInt, nil)
	wantRecords(t, data, -5, -1, nil)
	wantRecords(t, data, 0, 0, nil)
	wantRecords(t, data, 3, 3, nil)
	wantRecords(t, data, 4, 3, nil)
	wantRecords(t, data, 3, 0, nil)
	wantRecords(t, data, 1, math.MaxInt, all[1:])
	for _, from := range []int{4, 5, 6, 7, math.MaxInt} {
		wantRecords(t, data, from, math.MaxInt, nil)
		wantRecords(t, data+"\n", from, math.MaxInt, nil)
		wantRecords(t, "", from, math.MaxInt, nil)
	}
	wantRecords(t, data, math.MaxInt, math.MinInt, nil)
}

func wantBlocks(t *testing.T, sizes []int, from, to, first, behind int) {
	t.Helper()
	if a, b := splits.Blocks(sizes, split(from, to)); a != first || b != behind {
		t.Errorf("Blocks(%v, %d to %d): %d, %d, not %d, %d", sizes, from, to, a, b, first, behind)
	}
}

// P18.3: the pieces that have a byte of the split.
func TestBlocks(t *testing.T) {
	three := []int{3, 3, 3}
	wantBlocks(t, three, 2, 4, 0, 2)
	wantBlocks(t, three, 0, 3, 0, 1)
	wantBlocks(t, three, 0, 4, 0, 2)
	wantBlocks(t, three, 2, 3, 0, 1)
	wantBlocks(t, three, 3, 6, 1, 2)
	wantBlocks(t, three, 3, 4, 1, 2)
	wantBlocks(t, three, 5, 7, 1, 3)
	wantBlocks(t, three, 2, 7, 0, 3)
	wantBlocks(t, three, 0, 9, 0, 3)
	wantBlocks(t, three, 8, 9, 2, 3)
	wantBlocks(t, []int{5}, 1, 2, 0, 1)
	wantBlocks(t, []int{1 << 30, 1 << 30}, 1<<30, 1<<31, 1, 2)
	wantBlocks(t, []int{1 << 30, 1 << 30}, 1<<30-1, 1<<31, 0, 2)
}

// P18.3: empty pieces have no byte; one below 0 counts as an empty one.
func TestBlocksOfEmptyPieces(t *testing.T) {
	sizes := []int{0, 3, 0, -5, 3, math.MinInt, 0}
	wantBlocks(t, sizes, 0, 6, 1, 5)
	wantBlocks(t, sizes, 0, 3, 1, 2)
	wantBlocks(t, sizes, 3, 6, 4, 5)
	wantBlocks(t, sizes, 2, 4, 1, 5)
	wantBlocks(t, sizes, 5, 99, 4, 5)
	wantBlocks(t, sizes, 6, 99, 0, 0)
	wantBlocks(t, []int{0, 0}, 0, 1, 0, 0)
	wantBlocks(t, []int{-1}, -1, 1, 0, 0)
}

// P18.3: 0 and 0, where no piece has a byte of the split.
func TestBlocksOfWrongSplits(t *testing.T) {
	three := []int{3, 3, 3}
	for _, s := range []splits.Split{
		split(9, 12), split(math.MaxInt, math.MaxInt), split(-3, 0), split(math.MinInt, -1), split(4, 4), split(3, 3),
		split(4, 2), split(9, 0), split(math.MaxInt, math.MinInt), split(-1, -1),
	} {
		wantBlocks(t, three, s.From, s.To, 0, 0)
	}
	wantBlocks(t, nil, 0, 9, 0, 0)
	wantBlocks(t, []int{}, math.MinInt, math.MaxInt, 0, 0)
	wantBlocks(t, three, math.MinInt, math.MaxInt, 0, 3)
	wantBlocks(t, three, -1, 1, 0, 1)
	wantBlocks(t, three, math.MinInt, 4, 0, 2)
	wantBlocks(t, three, 8, math.MaxInt, 2, 3)
}

// allLines: the lines of data, found byte by byte.
func allLines(data string) []splits.Record {
	var list []splits.Record
	at := 0
	for i := range len(data) {
		if data[i] == '\n' {
			list = append(list, splits.Record{At: at, Line: data[at:i]})
			at = i + 1
		}
	}
	if at < len(data) {
		list = append(list, splits.Record{At: at, Line: data[at:]})
	}
	return list
}

// P18.4, P18.1, P18.2: the splits of any file are a plan, and their records in order are all its lines.
func TestAnyFiles(t *testing.T) {
	r := rand.New(rand.NewSource(1))
	for range 3000 {
		b := make([]byte, r.Intn(1+r.Intn(700)))
		for i := range b {
			b[i] = "ab\n"[r.Intn(3)]
			if r.Intn(20) > 0 && i > 100 {
				b[i] = 'x'
			}
		}
		data, want := string(b), r.Intn(12)-2
		lines := allLines(data)
		var found []splits.Record
		end := 0
		plan := splits.Plan(len(data), want)
		for _, s := range plan {
			if s.From != end || s.To <= s.From || s.To-s.From != plan[0].To && s.To != len(data) {
				t.Fatalf("Plan(%d, %d): %v", len(data), want, plan)
			}
			end = s.To
			found = append(found, splits.Records(data, s)...)
		}
		if end != len(data) || len(plan) > api.MaxSplits {
			t.Fatalf("Plan(%d, %d): %v", len(data), want, plan)
		}
		if !slices.Equal(found, lines) {
			t.Fatalf("the records of %q by %d: %v", data, want, found)
		}
		from, to := r.Intn(len(data)+5)-2, r.Intn(len(data)+5)-2
		wantRecords(t, data, from, to, slices.DeleteFunc(lines, func(l splits.Record) bool { return l.At < from || l.At >= to }))
	}
}

// P18.1: any plan has the least want that the limit leaves.
func TestAnyPlans(t *testing.T) {
	r := rand.New(rand.NewSource(2))
	for range 3000 {
		size, want := 1+r.Intn(5000), r.Intn(40)-3
		each := max(want, 1)
		for (size+each-1)/each > api.MaxSplits {
			each++
		}
		var ends []int
		for to := each; to < size; to += each {
			ends = append(ends, to)
		}
		wantPlan(t, size, want, append(ends, size)...)
	}
}

// P18.3: any pieces, held against a list of their bytes.
func TestAnyBlocks(t *testing.T) {
	r := rand.New(rand.NewSource(3))
	for range 5000 {
		var sizes, owner []int // of each byte, the piece that has it
		for i := range r.Intn(8) {
			sizes = append(sizes, r.Intn(8)-2)
			for range sizes[i] {
				owner = append(owner, i)
			}
		}
		from, to := r.Intn(len(owner)+4)-2, r.Intn(len(owner)+4)-2
		first, behind := 0, 0
		if a, b := max(from, 0), min(to, len(owner)); a < b {
			first, behind = owner[a], owner[b-1]+1
		}
		had := slices.Clone(sizes)
		wantBlocks(t, sizes, from, to, first, behind)
		if !slices.Equal(sizes, had) {
			t.Fatal("the sizes were changed")
		}
	}
}

// P18.2: an answer shares nothing with the data or another one.
func TestNothingIsShared(t *testing.T) {
	data := strings.Clone("ab\ncd\nef")
	start := uintptr(unsafe.Pointer(unsafe.StringData(data)))
	list := splits.Records(data, split(0, 99))
	for _, l := range list {
		if at := uintptr(unsafe.Pointer(unsafe.StringData(l.Line))); at >= start && at < start+uintptr(len(data)) {
			t.Errorf("%s is a piece of the data", strconv.Quote(l.Line))
		}
	}
	clear(list)
	wantRecords(t, data, 0, 99, records(0, "ab", 3, "cd", 6, "ef"))
	plan := splits.Plan(10, 4)
	clear(plan)
	wantPlan(t, 10, 4, 4, 8, 10)
}
