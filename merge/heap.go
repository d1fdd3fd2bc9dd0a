package merge

// heap has its first item on top: below the item at a place stand those at twice the place and one or two more, and neither comes ahead of it.
type heap[T any] struct {
	items []T
	ahead func(a, b T) bool
}

func (h *heap[T]) push(item T) {
	h.items = append(h.items, item)
	h.rise(len(h.items) - 1)
}

// replace puts an item in the place of the first one.
func (h *heap[T]) replace(item T) {
	h.items[0] = item
	h.sink(0)
}

// drop takes the first item off.
func (h *heap[T]) drop() {
	last := len(h.items) - 1
	h.swap(0, last)
	h.items = h.items[:last]
	h.sink(0)
}

func (h *heap[T]) swap(a, b int) {
	h.items[a], h.items[b] = h.items[b], h.items[a]
}

// rise: the item at a place goes up as far as it comes ahead.
func (h *heap[T]) rise(at int) {
up:
	above := (at - 1) / 2
	if at == 0 || !h.ahead(h.items[at], h.items[above]) {
		return
	}
	h.swap(at, above)
	at = above
	goto up
}

// sink: the item at a place goes down as far as one below it comes ahead.
func (h *heap[T]) sink(at int) {
down:
	below := 2*at + 1
	if below+1 < len(h.items) && h.ahead(h.items[below+1], h.items[below]) {
		below++
	}
	if below >= len(h.items) || !h.ahead(h.items[below], h.items[at]) {
		return
	}
	h.swap(at, below)
	at = below
	goto down
}
