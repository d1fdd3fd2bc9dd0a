package merge

import (
	"iter"
	"strings"

	"mahout/api"
)

// source is what is left of a run, at least a pair, and where the run stands among the others.
type source struct {
	left  []api.Pair
	place int
}

// ahead: does the first pair of s come ahead of that of t?
func (s source) ahead(t source) bool {
	if order := strings.Compare(s.left[0].Key, t.left[0].Key); order != 0 {
		return order < 0
	}
	return s.place < t.place
}

// sources: a heap of those runs that have pairs.
func sources(runs [][]api.Pair) *heap[source] {
	h := &heap[source]{ahead: source.ahead}
	for i, run := range runs {
		if len(run) > 0 {
			h.push(source{left: run, place: i})
		}
	}
	return h
}

// merged hands out the pairs of several runs, which aren't copied.
func merged(runs [][]api.Pair) iter.Seq[api.Pair] {
	return func(yield func(api.Pair) bool) {
		h := sources(runs)
		for len(h.items) > 0 {
			first := h.items[0]
			if !yield(first.left[0]) {
				return
			}
			first.left = first.left[1:]
			if len(first.left) > 0 {
				h.replace(first)
			} else {
				h.drop()
			}
		}
	}
}
