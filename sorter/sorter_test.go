package sorter_test

import (
	"math"
	"math/rand"
	"slices"
	"strconv"
	"strings"
	"testing"
	"unsafe"

	"mahout/api"
	"mahout/crc"
	"mahout/eval"
	"mahout/lang"
	"mahout/sorter"
)

// summing adds up the numbers of each key; all keys belong in one of two parts by their first byte.
const summing = `map { } combine { emit key, text(sum(values)); } reduce { } part less("m", key);`

// P20.1, P20.2: the chapter's example.
func TestExample(t *testing.T) {
	s := sorter.New(combining(t, "", ""), 1, 2)
	s.Add(pairs("b", "1", "a", "2", "a", "3")...)
	wantRuns(t, s, 1)
	wantParts(t, "Finish", s.Finish(), pairs("a", "2", "a", "3", "b", "1"))
}

// P20.1: a new sorter has gathered nothing; of the parts there are at least 1 and at most MaxParts.
func TestNew(t *testing.T) {
	p := combining(t, "", "sub(parts, 1)")
	for _, c := range []struct{ parts, want int }{
		{math.MinInt, 1}, {-1, 1}, {0, 1}, {1, 1}, {2, 2}, {63, 63}, {64, 64}, {65, 64}, {1000, 64}, {math.MaxInt, 64},
	} {
		s := sorter.New(p, c.parts, 3)
		wantRuns(t, s, 0)
		empty := make([][]api.Pair, c.want)
		wantParts(t, "of "+strconv.Itoa(c.parts)+" parts, empty", s.Finish(), empty...)
		s.Add(pairs("a", "1")...)
		full := slices.Clone(empty)
		full[c.want-1] = pairs("a", "1") // the expression knows the parts as they count
		wantParts(t, "of "+strconv.Itoa(c.parts)+" parts", s.Finish(), full...)
	}
}

// P20.1: whenever the buffer holds as many pairs as the limit says, it becomes a run; a limit below 1 is 1.
func TestRuns(t *testing.T) {
	p := combining(t, "", "")
	for _, c := range []struct{ limit, each int }{
		{math.MinInt, 1}, {-1, 1}, {0, 1}, {1, 1}, {2, 2}, {3, 3}, {7, 7}, {30, 30}, {31, 31}, {math.MaxInt, math.MaxInt},
	} {
		for _, step := range []int{1, 2, 3, 5, 30} {
			s := sorter.New(p, 2, c.limit)
			added := 0
			for added < 30 {
				s.Add(slices.Repeat(pairs("k", "v"), step)...)
				added += step
				wantRuns(t, s, added/c.each)
				s.Add()
				wantRuns(t, s, added/c.each)
			}
		}
	}
}

// P20.2: all that was gathered is sorted, pairs with one key as they were added, whether they were spilled or not.
func TestFinish(t *testing.T) {
	p := combining(t, "", "0")
	list := pairs("b", "1", "a", "2", "c", "3", "a", "1", "b", "0", "\xff", "4", "", "5", "B", "6", "a", "2", "a\x00", "7")
	want := pairs("", "5", "B", "6", "a", "2", "a", "1", "a", "2", "a\x00", "7", "b", "1", "b", "0", "c", "3", "\xff", "4")
	for _, limit := range []int{0, 1, 2, 3, 4, 5, 9, 10, 11, 1000} {
		wantParts(t, "by "+strconv.Itoa(limit), finished(p, 1, limit, list), want)
		wantParts(t, "by "+strconv.Itoa(limit)+", in the last of its parts", finished(combining(t, "", "2"), 3, limit, list), nil, nil, want)
	}
	wantParts(t, "nothing", finished(p, 2, 3, nil), nil, nil)
	long := strings.Repeat("x", 9000)
	wantParts(t, "long texts", finished(p, 1, 1, pairs(long+"b", long, long+"a", "")), pairs(long+"a", "", long+"b", long))
}

// P20.2: the values of a key are combined, all of them at once, in the order in which they were added.
func TestCombine(t *testing.T) {
	list := pairs("b", "1", "a", "2", "b", "10", "a", "3", "b", "100", "c", "x")
	for _, limit := range []int{1, 2, 3, 4, 5, 6, 7} {
		wantParts(t, "sums", finished(parsed(t, summing), 1, limit, list), pairs("a", "5", "b", "111", "c", "0"))
		wantParts(t, "in order", finished(combining(t, `combine { emit key, join(values, " "); }`, "0"), 1, limit, list), pairs("a", "2 3", "b", "1 10 100", "c", "x"))
		wantParts(t, "counts", finished(combining(t, `combine { emit key, text(count(values)); }`, "0"), 1, limit, list), pairs("a", "2", "b", "3", "c", "1"))
		wantParts(t, "nothing", finished(combining(t, `combine { }`, "0"), 2, limit, list), nil, nil)
	}
	wantParts(t, "nothing to combine", finished(combining(t, `combine { emit "a", "b"; }`, "0"), 1, 2, nil), nil)
	many := slices.Repeat(pairs("k", "1"), api.MaxEmit+500)
	wantParts(t, "many values", finished(parsed(t, summing), 2, 7, many), pairs("k", strconv.Itoa(api.MaxEmit+500)), nil)
	wantParts(t, "many values without combine", finished(combining(t, "", "0"), 1, 7, many), many)
}

// P20.2: what is combined may have other keys: by these it is parted and sorted, alike ones in the order in which they came.
func TestCombineToOtherKeys(t *testing.T) {
	p := combining(t, `combine { emit cat("z", key), "1"; emit "m", key; emit cat("a", key), "2"; emit "m", "again"; }`, `less("m", key)`)
	list := pairs("b", "", "c", "", "a", "", "b", "")
	for _, limit := range []int{1, 2, 3, 4, 5} {
		wantParts(t, "two parts", finished(p, 2, limit, list),
			pairs("aa", "2", "ab", "2", "ac", "2", "m", "a", "m", "again", "m", "b", "m", "again", "m", "c", "m", "again"),
			pairs("za", "1", "zb", "1", "zc", "1"))
		wantParts(t, "one part", finished(p, 1, limit, list),
			pairs("aa", "2", "ab", "2", "ac", "2", "m", "a", "m", "again", "m", "b", "m", "again", "m", "c", "m", "again", "za", "1", "zb", "1", "zc", "1"))
	}
	falling := combining(t, `combine { emit text(sub(9, len(key))), key; }`, "")
	wantParts(t, "falling", finished(falling, 1, 2, pairs("a", "", "bb", "", "ccc", "", "dd", "")),
		pairs("6", "ccc", "7", "bb", "7", "dd", "8", "a"))
	same := combining(t, `combine { emit "b", key; emit "b", first(values); }`, "")
	wantParts(t, "the key of another group", finished(same, 1, 1, pairs("c", "1", "a", "2", "b", "3")), pairs("b", "a", "b", "2", "b", "b", "b", "3", "b", "c", "b", "1"))
}

// P20.2: the part expression tells the parts; without one, the checksums of the keys.
func TestParts(t *testing.T) {
	list := pairs("7", "a", "-1", "b", "3", "c", "0", "d", "7", "e", "x", "f", "-4", "g")
	wantParts(t, "by the expression", finished(combining(t, "", "num(key)"), 4, 2, list),
		pairs("-4", "g", "0", "d", "x", "f"), nil, nil, pairs("-1", "b", "3", "c", "7", "a", "7", "e"))
	want := make([][]api.Pair, 5)
	for _, p := range pairs("-1", "b", "-4", "g", "0", "d", "3", "c", "7", "a", "7", "e", "x", "f") {
		k := crc.Sum(p.Key) % 5
		want[k] = append(want[k], p)
	}
	wantParts(t, "by the checksums", finished(combining(t, "", ""), 5, 2, list), want...)
}

// P20.2: Finish changes nothing: it can be asked again, and more can be added.
func TestFinishAgain(t *testing.T) {
	p := parsed(t, summing)
	for _, limit := range []int{1, 2, 3, 4, 100} {
		s := sorter.New(p, 2, limit)
		s.Add(pairs("z", "1", "a", "1", "z", "2")...)
		for range 3 {
			wantParts(t, "Finish", s.Finish(), pairs("a", "1"), pairs("z", "3"))
			wantRuns(t, s, 3/limit)
		}
		s.Add(pairs("a", "5")...)
		for range 2 {
			wantParts(t, "with more", s.Finish(), pairs("a", "6"), pairs("z", "3"))
			wantRuns(t, s, 4/limit)
		}
	}
}

// modelled: what Finish comes to by the words, without any runs.
func modelled(p *lang.Program, parts int, list []api.Pair) [][]api.Pair {
	values := map[string][]string{}
	var keys []string
	for _, pair := range list {
		if values[pair.Key] == nil {
			keys = append(keys, pair.Key)
		}
		values[pair.Key] = append(values[pair.Key], pair.Value)
	}
	slices.Sort(keys)
	want := make([][]api.Pair, parts)
	for _, key := range keys {
		for _, pair := range eval.Combine(p, key, values[key]) {
			k := eval.Part(p, pair.Key, parts)
			at := len(want[k])
			for at > 0 && want[k][at-1].Key > pair.Key {
				at--
			}
			want[k] = slices.Insert(want[k], at, pair)
		}
	}
	return want
}

// P20.1, P20.2, P20.3: any programs and pairs, added and asked in any way and with any limit, come to what the words say.
func TestAnyPairs(t *testing.T) {
	r := rand.New(rand.NewSource(1))
	for range 2500 {
		p, parts, limit := chosenProgram(t, r), 1+r.Intn(5), 1+r.Intn(12)
		list := chosen(r, r.Intn(70))
		s := sorter.New(p, parts, limit)
		for added := 0; added < len(list); {
			n := min(r.Intn(9), len(list)-added)
			s.Add(list[added : added+n]...)
			added += n
			wantRuns(t, s, added/limit)
			if r.Intn(8) == 0 {
				wantParts(t, lang.Print(p), s.Finish(), modelled(p, parts, list[:added])...)
			}
		}
		wantParts(t, lang.Print(p), s.Finish(), modelled(p, parts, list)...)
	}
}

// P20.3: whatever the limit, Finish answers the same.
func TestAnyLimit(t *testing.T) {
	r := rand.New(rand.NewSource(2))
	for range 60 {
		p, parts, list := chosenProgram(t, r), 1+r.Intn(5), chosen(r, 100)
		want := finished(p, parts, 1, list)
		for _, limit := range []int{math.MinInt, 0, 2, 3, 7, 49, 50, 51, 99, 100, 101, math.MaxInt} {
			wantParts(t, lang.Print(p), finished(p, parts, limit, list), want...)
		}
	}
	p, list := parsed(t, summing), chosen(r, 1<<16)
	wantParts(t, "many runs", finished(p, 2, 1, list), finished(p, 2, math.MaxInt, list)...)
}

// P20.4: with a nil program there are parts, and they are empty.
func TestNilProgram(t *testing.T) {
	for _, c := range []struct{ parts, want int }{{-5, 1}, {1, 1}, {3, 3}, {99, 64}} {
		s := sorter.New(nil, c.parts, 2)
		if s == nil {
			t.Fatal("New: nil")
		}
		wantParts(t, "nil program", s.Finish(), make([][]api.Pair, c.want)...)
		s.Add(pairs("a", "1", "b", "2", "c", "3")...)
		wantRuns(t, s, 1)
		wantParts(t, "nil program", s.Finish(), make([][]api.Pair, c.want)...)
	}
}

// P20.4: of a nil sorter, nothing.
func TestNil(t *testing.T) {
	var s *sorter.Sorter
	s.Add()
	s.Add(pairs("a", "1", "b", "2")...)
	wantRuns(t, s, 0)
	wantParts(t, "nil sorter", s.Finish())
}

// P20.1: sorters have nothing to do with one another.
func TestTwoSorters(t *testing.T) {
	p := parsed(t, summing)
	one, two := sorter.New(p, 1, 2), sorter.New(p, 1, 2)
	one.Add(pairs("a", "1", "a", "2", "a", "3")...)
	two.Add(pairs("b", "1")...)
	wantRuns(t, one, 1)
	wantRuns(t, two, 0)
	wantParts(t, "one", one.Finish(), pairs("a", "6"))
	wantParts(t, "two", two.Finish(), pairs("b", "1"))
}

// What is handed in isn't changed and not kept, the room behind it included; the program stays as it is.
func TestNothingIsKept(t *testing.T) {
	p := parsed(t, summing)
	printed := lang.Print(p)
	for _, limit := range []int{1, 2, 3, 100} {
		room := pairs("b", "1", "a", "2", "b", "3", "c", "4")
		had := slices.Clone(room)
		s := sorter.New(p, 1, limit)
		s.Add(room[:3]...)
		s.Finish()
		if !slices.Equal(room, had) {
			t.Errorf("Add changed the pairs: %v", room)
		}
		clear(room)
		wantParts(t, "behind a change", s.Finish(), pairs("a", "2", "b", "4"))

		bytes := []byte("a9")
		s.Add(api.Pair{Key: unsafe.String(&bytes[0], 1), Value: unsafe.String(&bytes[1], 1)})
		copy(bytes, "x5")
		wantParts(t, "behind a change of the texts", s.Finish(), pairs("a", "11", "b", "4"))
	}
	if lang.Print(p) != printed {
		t.Error("the program was changed")
	}
}

// apart: no text of an answer lies where one of the others' lies.
func apart(t *testing.T, what string, answer, others []api.Pair) {
	t.Helper()
	for _, a := range answer {
		for _, o := range others {
			for _, x := range []string{a.Key, a.Value} {
				for _, y := range []string{o.Key, o.Value} {
					if unsafe.StringData(x) == unsafe.StringData(y) {
						t.Errorf("%s: %q shares memory", what, x)
					}
				}
			}
		}
	}
}

// An answer is new memory: it shares none with an argument, another answer or what is kept, and no two of its lists share any.
func TestNothingIsShared(t *testing.T) {
	list := pairs(strings.Clone("za"), strings.Clone("vala"), strings.Clone("ab"), strings.Clone("valb"), strings.Clone("ac"), strings.Clone("valc"))
	for _, limit := range []int{1, 2, 100} {
		s := sorter.New(combining(t, "", `less("m", key)`), 2, limit)
		s.Add(list...)
		want := [][]api.Pair{pairs("ab", "valb", "ac", "valc"), pairs("za", "vala")}
		one, two := s.Finish(), s.Finish()
		for k := range one {
			apart(t, "with what was added", one[k], list)
			apart(t, "with another answer", one[k], two[k])
		}
		one[0] = append(one[0], pairs("x", "y", "z", "w")...)
		clear(one[0])
		wantParts(t, "the other list", one[1:], want[1])
		clear(one[1])
		wantParts(t, "the other answer", two, want...)
		wantParts(t, "the next answer", s.Finish(), want...)
	}
}
