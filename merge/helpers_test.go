package merge_test

import (
	"math/rand"
	"slices"
	"strconv"
	"strings"
	"testing"
	"unsafe"

	"mahout/api"
	"mahout/merge"
)

// pairs: a list of pairs, of keys and values in turn.
func pairs(texts ...string) []api.Pair {
	var list []api.Pair
	for pair := range slices.Chunk(texts, 2) {
		list = append(list, api.Pair{Key: pair[0], Value: pair[1]})
	}
	return list
}

// short writes pairs so that long ones can still be read.
func short(list []api.Pair) string {
	var b strings.Builder
	for i, p := range list {
		if i == 20 {
			b.WriteString(" ..")
			break
		}
		b.WriteString(" " + clip(p.Key) + "=" + clip(p.Value))
	}
	return strconv.Itoa(len(list)) + ":" + b.String()
}

func clip(t string) string {
	if len(t) > 40 {
		return strconv.Quote(t[:40]) + "..(" + strconv.Itoa(len(t)) + ")"
	}
	return strconv.Quote(t)
}

func wantPairs(t *testing.T, what string, got, want []api.Pair) {
	t.Helper()
	if !slices.Equal(got, want) {
		t.Errorf("%s: %s, not %s", what, short(got), short(want))
	}
}

// wantMerge: both faces of a merge give these pairs.
func wantMerge(t *testing.T, what string, want []api.Pair, runs ...[]api.Pair) {
	t.Helper()
	wantPairs(t, "Merge of "+what, merge.Merge(runs...), want)
	wantPairs(t, "All of "+what, slices.Collect(merge.All(runs...)), want)
}

// group: a key with its values.
func group(key string, values ...string) merge.Group {
	return merge.Group{Key: key, Values: values}
}

func sameGroup(a, b merge.Group) bool {
	return a.Key == b.Key && slices.Equal(a.Values, b.Values)
}

func wantGroups(t *testing.T, list []api.Pair, want ...merge.Group) {
	t.Helper()
	if got := merge.Groups(list); !slices.EqualFunc(got, want, sameGroup) {
		t.Errorf("Groups of %s: %q, not %q", short(list), got, want)
	}
}

// chosen: so many pairs of few keys; the values tell where each stood.
func chosen(r *rand.Rand, n int) []api.Pair {
	keys := []string{"", "a", "aa", "ab", "b", "B", "é", "\xff", "\x00", "a\x00"}
	keys = keys[:1+r.Intn(len(keys))]
	var list []api.Pair
	for i := range n {
		list = append(list, api.Pair{Key: keys[r.Intn(len(keys))], Value: strconv.Itoa(i)})
	}
	return list
}

// cutUp: pieces of a list in order, perhaps with empty ones among them.
func cutUp(r *rand.Rand, list []api.Pair) [][]api.Pair {
	var pieces [][]api.Pair
	most := 1 + r.Intn(20)
	for len(list) > 0 {
		n := min(r.Intn(most+1), len(list))
		pieces = append(pieces, list[:n])
		list = list[n:]
	}
	return pieces
}

// copyOfRuns: the same runs, which share no list with these.
func copyOfRuns(runs [][]api.Pair) [][]api.Pair {
	var copies [][]api.Pair
	for _, run := range runs {
		copies = append(copies, slices.Clone(run))
	}
	return copies
}

// isApart: no text of an answer lies where one of these lies.
func isApart(t *testing.T, what string, answer []string, texts []string) {
	t.Helper()
	for _, a := range answer {
		for _, text := range texts {
			at, start := uintptr(unsafe.Pointer(unsafe.StringData(a))), uintptr(unsafe.Pointer(unsafe.StringData(text)))
			if a != "" && at >= start && at < start+uintptr(len(text)) {
				t.Errorf("%s: %s shares memory", what, clip(a))
			}
		}
	}
}

// textsOf: all keys and values.
func textsOf(list []api.Pair) []string {
	var texts []string
	for _, p := range list {
		texts = append(texts, p.Key, p.Value)
	}
	return texts
}

// textsOfGroups: all keys and values.
func textsOfGroups(groups []merge.Group) []string {
	var texts []string
	for _, g := range groups {
		texts = append(append(texts, g.Key), g.Values...)
	}
	return texts
}
