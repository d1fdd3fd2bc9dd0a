package blocks

import "mahout/api"

// set holds each of some things once.
type set[T comparable] map[T]struct{}

func setOf[T comparable](list []T) set[T] {
	s := make(set[T], len(list))
	for _, x := range list {
		s.add(x)
	}
	return s
}

func (s set[T]) add(x T) {
	s[x] = struct{}{}
}

func (s set[T]) has(x T) bool {
	_, in := s[x]
	return in
}

// gatherer is a manager that gathers orders, at one moment.
type gatherer struct {
	*Manager
	now    int
	orders []Order
}

func (g *gatherer) isFull() bool {
	return len(g.orders) >= api.MaxOrders
}

// copies gathers the orders for needed blocks that too few nodes hold.
func (g *gatherer) copies(needed []api.Block) {
	seen := set[api.Block]{}
	for _, b := range needed {
		if g.isFull() {
			return
		}
		if !seen.has(b) {
			seen.add(b)
			g.spreadOut(b)
		}
	}
}

// spreadOut gathers the order to copy a block, if there should be more of it and one more node for it.
func (g *gatherer) spreadOut(b api.Block) {
	holders := g.Holders(b, g.now)
	if len(holders) == 0 || len(holders) >= g.replicas {
		return
	}
	first, _ := g.find(holders[0])
	for _, to := range g.Place(g.nodes[first].at, g.now, 1, holders) {
		g.orders = append(g.orders, Order{Kind: Copy, Block: b, Node: holders[0], To: to})
	}
}

// drops gathers the orders for blocks that nobody needs, nor will: the calls in which they were made are over.
func (g *gatherer) drops(needed []api.Block, floors []Floor) {
	wanted := setOf(needed)
	floorOf := highest(floors)
	for _, k := range g.those(g.now, anyNode) {
		for _, b := range k.held {
			if g.isFull() {
				return
			}
			if floor, told := floorOf[b.Client]; told && b.Call < floor && !wanted.has(b) {
				g.orders = append(g.orders, Order{Kind: Drop, Block: b, Node: k.node})
			}
		}
	}
}

// highest: of each client the greatest of its floors.
func highest(floors []Floor) map[int]int {
	floorOf := make(map[int]int, len(floors))
	for _, f := range floors {
		if floor, told := floorOf[f.Client]; !told || f.Call > floor {
			floorOf[f.Client] = f.Call
		}
	}
	return floorOf
}
