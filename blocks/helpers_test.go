package blocks_test

import (
	"cmp"
	"math"
	"math/cmplx"
	"slices"
	"testing"

	"mahout/api"
	"mahout/blocks"
	"mahout/where"
)

// blk is a block of a client and a call, the try 0.
func blk(client, call int) api.Block {
	return api.Block{Client: client, Call: call}
}

// named is a block by its three numbers.
func named(client, call, try int) api.Block {
	return api.Block{Client: client, Call: call, Try: try}
}

func list(bs ...api.Block) []api.Block {
	return bs
}

func copyOf(b api.Block, node, to int) blocks.Order {
	return blocks.Order{Kind: blocks.Copy, Block: b, Node: node, To: to}
}

func dropOf(b api.Block, node int) blocks.Order {
	return blocks.Order{Kind: blocks.Drop, Block: b, Node: node}
}

func wantAlive(t *testing.T, m *blocks.Manager, now int, nodes ...int) {
	t.Helper()
	if got := m.Alive(now); !slices.Equal(got, nodes) {
		t.Errorf("Alive(%d): %v, not %v", now, got, nodes)
	}
}

func wantHolders(t *testing.T, m *blocks.Manager, b api.Block, now int, nodes ...int) {
	t.Helper()
	if got := m.Holders(b, now); !slices.Equal(got, nodes) {
		t.Errorf("Holders(%v, %d): %v, not %v", b, now, got, nodes)
	}
}

func wantPlace(t *testing.T, m *blocks.Manager, from complex128, now, n int, avoid []int, nodes ...int) {
	t.Helper()
	if got := m.Place(from, now, n, avoid); !slices.Equal(got, nodes) {
		t.Errorf("Place(%v, %d, %d, %v): %v, not %v", from, now, n, avoid, got, nodes)
	}
}

func wantWork(t *testing.T, m *blocks.Manager, now int, needed []api.Block, floors []blocks.Floor, orders ...blocks.Order) {
	t.Helper()
	if got := m.Work(now, needed, floors); !slices.Equal(got, orders) {
		t.Errorf("Work(%d, %v, %v): %v, not %v", now, needed, floors, got, orders)
	}
}

// nowhere are complex numbers that are no places.
func nowhere() []complex128 {
	return []complex128{0.5, 1001, -1001i, cmplx.NaN(), cmplx.Inf(), complex(math.Inf(-1), 0)}
}

// beat is one Beat.
type beat struct {
	node int
	at   complex128
	now  int
	held []api.Block
}

// model is a manager as the words tell it: all Beats that were given.
type model struct {
	replicas, life int
	beats          []beat
}

func cut(n, least, most int) int {
	return min(max(n, least), most)
}

// last is the last Beat of a node.
func (m model) last(node int) beat {
	for _, b := range slices.Backward(m.beats) {
		if b.node == node {
			return b
		}
	}
	panic("never heard of")
}

func (m model) alive(now int) []int {
	var nodes []int
	for _, b := range m.beats {
		life, heard := cut(m.life, 1, api.MaxTime), cut(m.last(b.node).now, 0, api.MaxTime)
		if heard > cut(now, 0, api.MaxTime)-life && !slices.Contains(nodes, b.node) {
			nodes = append(nodes, b.node)
		}
	}
	slices.Sort(nodes)
	return nodes
}

func (m model) holders(b api.Block, now int) []int {
	return slices.DeleteFunc(m.alive(now), func(node int) bool {
		return !slices.Contains(m.last(node).held, b)
	})
}

func (m model) place(from complex128, now, n int, avoid []int) []int {
	free := slices.DeleteFunc(m.alive(now), func(node int) bool { return slices.Contains(avoid, node) })
	var places []complex128
	for _, node := range free {
		places = append(places, m.last(node).at)
	}
	var nodes []int
	for _, i := range where.Spread(from, places, n) {
		nodes = append(nodes, free[i])
	}
	return nodes
}

// isOver: is there a floor of the block's client above its call?
func isOver(b api.Block, floors []blocks.Floor) bool {
	return slices.ContainsFunc(floors, func(f blocks.Floor) bool {
		return f.Client == b.Client && f.Call > b.Call
	})
}

func (m model) work(now int, needed []api.Block, floors []blocks.Floor) []blocks.Order {
	var orders []blocks.Order
	for i, b := range needed {
		holders := m.holders(b, now)
		if slices.Contains(needed[:i], b) || len(holders) == 0 || len(holders) >= cut(m.replicas, 1, api.MaxNodes) {
			continue
		}
		if to := m.place(m.last(holders[0]).at, now, 1, holders); len(to) > 0 {
			orders = append(orders, copyOf(b, holders[0], to[0]))
		}
	}
	for _, node := range m.alive(now) {
		held := slices.Clone(m.last(node).held)
		slices.SortFunc(held, func(a, b api.Block) int {
			return cmp.Or(a.Client-b.Client, a.Call-b.Call, a.Try-b.Try)
		})
		for i, b := range held {
			if !slices.Contains(held[:i], b) && !slices.Contains(needed, b) && isOver(b, floors) {
				orders = append(orders, dropOf(b, node))
			}
		}
	}
	return orders[:min(len(orders), 64)]
}
