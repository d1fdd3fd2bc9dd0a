package merge_test

import (
	"iter"
	"math/rand"
	"slices"
	"strconv"
	"strings"
	"testing"
	"unsafe"

	"mahout/api"
	"mahout/merge"
)

// P19.1, P19.3: the chapter's example.
func TestExample(t *testing.T) {
	want := pairs("a", "1", "a", "3", "b", "4", "c", "2")
	wantMerge(t, "the example", want, pairs("a", "1", "c", "2"), pairs("a", "3", "b", "4"))
	wantGroups(t, want, group("a", "1", "3"), group("b", "4"), group("c", "2"))
}

// P19.1: the run with the smallest first key gives; of those that are alike, the one that stands first.
func TestMerge(t *testing.T) {
	for _, c := range []struct {
		what string
		runs [][]api.Pair
		want []api.Pair
	}{
		{"no runs", nil, nil},
		{"empty runs", [][]api.Pair{nil, {}, nil}, nil},
		{"one run", [][]api.Pair{pairs("a", "2", "b", "1", "b", "0")}, pairs("a", "2", "b", "1", "b", "0")},
		{"a run among empty ones", [][]api.Pair{nil, pairs("a", "1", "b", "2"), {}}, pairs("a", "1", "b", "2")},
		{"one behind the other", [][]api.Pair{pairs("c", "1", "d", "2"), pairs("a", "3", "b", "4")}, pairs("a", "3", "b", "4", "c", "1", "d", "2")},
		{"one key", [][]api.Pair{pairs("k", "9", "k", "1"), pairs("k", "5"), pairs("k", "7", "k", "0")}, pairs("k", "9", "k", "1", "k", "5", "k", "7", "k", "0")},
		{"the value doesn't count", [][]api.Pair{pairs("k", "b"), pairs("k", "a")}, pairs("k", "b", "k", "a")},
		{"the same run twice", [][]api.Pair{pairs("a", "1", "b", "2"), pairs("a", "1", "b", "2")}, pairs("a", "1", "a", "1", "b", "2", "b", "2")},
		{"the key comes again", [][]api.Pair{pairs("b", "1", "c", "2"), pairs("a", "3", "b", "4", "b", "5", "c", "6")},
			pairs("a", "3", "b", "1", "b", "4", "b", "5", "c", "2", "c", "6")},
		{"four runs", [][]api.Pair{pairs("d", "1"), pairs("b", "2", "d", "3"), pairs("a", "4", "e", "5"), pairs("c", "6", "d", "7")},
			pairs("a", "4", "b", "2", "c", "6", "d", "1", "d", "3", "d", "7", "e", "5")},
		{"bytes", [][]api.Pair{pairs("\xff", "1"), pairs("é", "2"), pairs("z", "3"), pairs("Z", "4"), pairs("ab", "5"), pairs("a", "6"), pairs("a\x00", "7"), pairs("\x00", "8"), pairs("", "9"), pairs("10", "10"), pairs("9", "11")},
			pairs("", "9", "\x00", "8", "10", "10", "9", "11", "Z", "4", "a", "6", "a\x00", "7", "ab", "5", "z", "3", "é", "2", "\xff", "1")},
	} {
		wantMerge(t, c.what, c.want, c.runs...)
	}
	long := strings.Repeat("x", 1<<20)
	wantMerge(t, "long texts", pairs(long, "2", long+"a", "1", long+"b", long), pairs(long+"a", "1", long+"b", long), pairs(long, "2"))
}

// P19.1: of runs that don't rise too the first pairs left are held against each other.
func TestMergeOfRunsThatDontRise(t *testing.T) {
	wantMerge(t, "one that falls", pairs("c", "1", "b", "2", "a", "3"), pairs("c", "1", "b", "2", "a", "3"))
	wantMerge(t, "two that fall", pairs("b", "3", "a", "4", "c", "1", "b", "2"), pairs("c", "1", "b", "2"), pairs("b", "3", "a", "4"))
	wantMerge(t, "one that falls and one that rises", pairs("a", "3", "b", "4", "c", "1", "a", "2", "d", "5"), pairs("c", "1", "a", "2"), pairs("a", "3", "b", "4", "d", "5"))
	wantMerge(t, "a smaller one behind alike ones", pairs("b", "1", "a", "2", "b", "3", "b", "4", "a", "5"), pairs("b", "1", "a", "2", "b", "3"), pairs("b", "4", "a", "5"))
}

// firstLeft: what is told of All, done in the plainest way.
func firstLeft(runs [][]api.Pair) []api.Pair {
	left := slices.Clone(runs)
	var given []api.Pair
	for {
		best := -1
		for i, run := range left {
			if len(run) > 0 && (best < 0 || run[0].Key < left[best][0].Key) {
				best = i
			}
		}
		if best < 0 {
			return given
		}
		given = append(given, left[best][0])
		left[best] = left[best][1:]
	}
}

// P19.1: any runs, rising or not, held against the words; they stay as they are.
func TestAnyRuns(t *testing.T) {
	r := rand.New(rand.NewSource(1))
	for range 4000 {
		runs := cutUp(r, chosen(r, r.Intn(60)))
		for i, run := range runs {
			if r.Intn(3) > 0 {
				runs[i] = merge.Sort(run)
			}
		}
		had := copyOfRuns(runs)
		wantMerge(t, "any runs", firstLeft(runs), runs...)
		if !slices.EqualFunc(runs, had, slices.Equal) {
			t.Fatal("the runs were changed")
		}
	}
}

// P19.1: very many runs.
func TestManyRuns(t *testing.T) {
	const n = 1 << 16
	r := rand.New(rand.NewSource(2))
	var runs [][]api.Pair
	var want []api.Pair
	for i := range n {
		first, second := strconv.Itoa(1000000+i), strconv.Itoa(2000000+i/2)
		runs = append(runs, pairs(first, "", second, ""))
		want = append(want, pairs(first, "")...)
	}
	for i := range n {
		want = append(want, pairs(strconv.Itoa(2000000+i/2), "")...)
	}
	r.Shuffle(n, func(i, j int) { runs[i], runs[j] = runs[j], runs[i] })
	wantPairs(t, "many runs", merge.Merge(runs...), want)

	clear(want)
	for i := range runs {
		value := strconv.Itoa(i)
		runs[i] = pairs("k", value, "k", value)
		want[2*i] = api.Pair{Key: "k", Value: value}
		want[2*i+1] = want[2*i]
	}
	wantPairs(t, "many runs with one key", merge.Merge(runs...), want)
}

// taken: the first n pairs of an iterator, which is left then.
func taken(all iter.Seq[api.Pair], n int) []api.Pair {
	var list []api.Pair
	for p := range all {
		if len(list) == n {
			break
		}
		list = append(list, p)
	}
	return list
}

// P19.1: the iterator can be gone over several times, and left early.
func TestAllSeveralTimes(t *testing.T) {
	runs := [][]api.Pair{pairs("a", "1", "c", "2", "e", "3"), pairs("a", "4", "b", "5", "e", "6"), pairs("d", "7")}
	want := pairs("a", "1", "a", "4", "b", "5", "c", "2", "d", "7", "e", "3", "e", "6")
	all := merge.All(runs...)
	for n := range len(want) + 2 {
		wantPairs(t, "the first "+strconv.Itoa(n), taken(all, n), want[:min(n, len(want))])
		wantPairs(t, "all, behind "+strconv.Itoa(n), slices.Collect(all), want)
	}
	for n := range len(want) {
		calls := 0
		all(func(api.Pair) bool { // one that is called again, when it has said no, is counted
			calls++
			return calls <= n
		})
		if calls != n+1 {
			t.Errorf("left at %d: %d calls", n+1, calls)
		}
	}
	none := merge.All()
	wantPairs(t, "none", slices.Collect(none), nil)
	wantPairs(t, "none again", slices.Collect(none), nil)
}

// P19.1: ways through one iterator have nothing to do with one another.
func TestAllInsideAll(t *testing.T) {
	all := merge.All(pairs("a", "1", "c", "2"), pairs("b", "3", "c", "4"))
	want := pairs("a", "1", "b", "3", "c", "2", "c", "4")
	var outer []api.Pair
	for p := range all {
		outer = append(outer, p)
		wantPairs(t, "inside", slices.Collect(all), want)
	}
	wantPairs(t, "outside", outer, want)

	first, endFirst := iter.Pull(all)
	second, endSecond := iter.Pull(all)
	defer endFirst()
	defer endSecond()
	first()
	for _, w := range want {
		if p, ok := second(); !ok || p != w {
			t.Errorf("the second way: %v, not %v", p, w)
		}
	}
	for _, w := range want[1:] {
		if p, ok := first(); !ok || p != w {
			t.Errorf("the first way: %v, not %v", p, w)
		}
	}
}

// P19.1: what is handed in isn't kept: runs that change later change nothing in what is given.
func TestAllKeepsNothing(t *testing.T) {
	runs := [][]api.Pair{pairs("a", "1", "c", "2"), pairs("b", "3")}
	want := pairs("a", "1", "b", "3", "c", "2")
	all := merge.All(runs...)
	runs[0][1] = api.Pair{Key: "z", Value: "z"}
	runs[1] = nil
	wantPairs(t, "behind a change", slices.Collect(all), want)
	var given []api.Pair
	for p := range all {
		clear(runs[0])
		given = append(given, p)
	}
	wantPairs(t, "amid a change", given, want)

	bytes := []byte("ab")
	all = merge.All([]api.Pair{{Key: unsafe.String(&bytes[0], 1), Value: unsafe.String(&bytes[1], 1)}})
	copy(bytes, "xy")
	wantPairs(t, "behind a change of the texts", slices.Collect(all), pairs("a", "b"))
}

// P19.2: by rising key, and pairs with one key as they stood.
func TestSort(t *testing.T) {
	for _, c := range []struct{ list, want []api.Pair }{
		{nil, nil},
		{[]api.Pair{}, nil},
		{pairs("a", "1"), pairs("a", "1")},
		{pairs("b", "1", "a", "2", "a", "1", "b", "0"), pairs("a", "2", "a", "1", "b", "1", "b", "0")},
		{pairs("k", "3", "k", "1", "k", "2"), pairs("k", "3", "k", "1", "k", "2")},
		{pairs("a", "1", "b", "2", "c", "3"), pairs("a", "1", "b", "2", "c", "3")},
		{pairs("c", "1", "b", "2", "a", "3"), pairs("a", "3", "b", "2", "c", "1")},
		{pairs("10", "", "9", "", "1", ""), pairs("1", "", "10", "", "9", "")},
		{pairs("\xff", "", "é", "", "z", "", "Z", "", "ab", "", "a\x00", "", "a", "", "\x00", "", "", "x"), pairs("", "x", "\x00", "", "Z", "", "a", "", "a\x00", "", "ab", "", "z", "", "é", "", "\xff", "")},
	} {
		wantPairs(t, "Sort of "+short(c.list), merge.Sort(c.list), c.want)
	}
}

// inserted: a list sorted by putting each pair behind those that are not greater.
func inserted(list []api.Pair) []api.Pair {
	var sorted []api.Pair
	for _, p := range list {
		at := len(sorted)
		for at > 0 && sorted[at-1].Key > p.Key {
			at--
		}
		sorted = slices.Insert(sorted, at, p)
	}
	return sorted
}

// P19.2, P19.4: any lists sorted; pieces of them that are each sorted come to the same when they are merged.
func TestAnyLists(t *testing.T) {
	r := rand.New(rand.NewSource(3))
	for i := range 3000 {
		size := 80
		if i%100 == 0 {
			size = 1500
		}
		list := chosen(r, r.Intn(size))
		had := slices.Clone(list)
		want := inserted(list)
		wantPairs(t, "Sort of "+short(list), merge.Sort(list), want)
		pieces := cutUp(r, list)
		for i, piece := range pieces {
			pieces[i] = merge.Sort(piece)
		}
		wantMerge(t, "the pieces of "+short(list), want, pieces...)
		wantPairs(t, "the list that was handed in", list, had)
	}
}

// P19.3: a group for each longest piece of neighbours with one key.
func TestGroups(t *testing.T) {
	wantGroups(t, nil)
	wantGroups(t, []api.Pair{})
	wantGroups(t, pairs("", ""), group("", ""))
	wantGroups(t, pairs("a", "1"), group("a", "1"))
	wantGroups(t, pairs("a", "2", "a", "1", "a", "2"), group("a", "2", "1", "2"))
	wantGroups(t, pairs("a", "1", "b", "2", "a", "3", "a", "4"), group("a", "1"), group("b", "2"), group("a", "3", "4"))
	wantGroups(t, pairs("", "1", "", "2", "a", "3"), group("", "1", "2"), group("a", "3"))
	wantGroups(t, pairs("a", "1", "", "2", "", "3"), group("a", "1"), group("", "2", "3"))
	wantGroups(t, pairs("b", "1", "a", "2", "A", "3", "a\x00", "4"), group("b", "1"), group("a", "2"), group("A", "3"), group("a\x00", "4"))
}

// P19.3: any groups, written one behind the other, are the pairs; neighbours have other keys.
func TestAnyGroups(t *testing.T) {
	r := rand.New(rand.NewSource(4))
	for range 2000 {
		list := chosen(r, r.Intn(50))
		var again []api.Pair
		groups := merge.Groups(list)
		for i, g := range groups {
			if len(g.Values) == 0 || i > 0 && g.Key == groups[i-1].Key {
				t.Fatalf("Groups of %s: %q", short(list), groups)
			}
			for _, v := range g.Values {
				again = append(again, api.Pair{Key: g.Key, Value: v})
			}
		}
		wantPairs(t, "the pairs of the groups", again, list)
	}
}

// P19.4: lists that are handed in stay as they are, the room behind their lengths included.
func TestNothingIsChanged(t *testing.T) {
	room := pairs("c", "1", "a", "2", "b", "3", "", "4")
	had := slices.Clone(room)
	list := room[:2]
	runs := [][]api.Pair{list, room[2:3], room[3:]}
	some := runs[:2]
	merge.Merge(some...)
	for range merge.All(some...) {
	}
	merge.Sort(list)
	merge.Groups(list)
	wantPairs(t, "the pairs", room, had)
	if len(runs[0]) != 2 || len(runs[1]) != 1 || len(runs[2]) != 1 {
		t.Errorf("the runs: %v", runs)
	}
}

// An answer is new memory: it shares none with an argument, with another answer or within itself.
func TestNothingIsShared(t *testing.T) {
	list := pairs(strings.Clone("aa"), strings.Clone("one"), strings.Clone("bb"), strings.Clone("two"), strings.Clone("bb"), strings.Clone("three"))
	all := merge.All(list)
	for what, made := range map[string]func() []api.Pair{
		"Sort":  func() []api.Pair { return merge.Sort(list) },
		"Merge": func() []api.Pair { return merge.Merge(list) },
		"All":   func() []api.Pair { return slices.Collect(all) },
	} {
		one, two := made(), made()
		isApart(t, what, textsOf(one), textsOf(list))
		isApart(t, what, textsOf(one), textsOf(two))
		clear(one)
		wantPairs(t, what, two, list)
		wantPairs(t, what, made(), list)
	}

	groups, others := merge.Groups(list), merge.Groups(list)
	isApart(t, "Groups", textsOfGroups(groups), textsOf(list))
	isApart(t, "Groups", textsOfGroups(groups), textsOfGroups(others))
	groups[0].Values = append(groups[0].Values, "more")
	groups[0].Values[0] = "other"
	if want := group("bb", "two", "three"); !sameGroup(groups[1], want) || !sameGroup(others[0], group("aa", "one")) {
		t.Errorf("Groups share their values: %q, %q", groups, others)
	}
}
