package blocks_test

import (
	"math"
	"math/rand"
	"slices"
	"testing"

	"mahout/api"
	"mahout/blocks"
)

// P15.3: copied is what is held by one at least, and by fewer than are wanted.
func TestCopies(t *testing.T) {
	m := blocks.New(3, 5)
	none, one, two, three, four := blk(1, 0), blk(1, 1), blk(1, 2), blk(1, 3), blk(1, 4)
	m.Beat(1, 0, 0, list(four))
	m.Beat(2, 10, 0, list(three, four))
	m.Beat(3, 20, 0, list(two, three, four))
	m.Beat(4, 31, 0, list(one, two, three, four))
	m.Beat(5, 42, 0, nil)
	wantWork(t, m, 0, list(none), nil)
	wantWork(t, m, 0, list(one), nil, copyOf(one, 4, 3)) // 11 away to either side
	wantWork(t, m, 0, list(two), nil, copyOf(two, 3, 2)) // nearer than 5, and 4 holds it
	wantWork(t, m, 0, list(three, four), nil)            // three and four nodes hold them
	wantWork(t, m, 0, list(four, two, none, one, three), nil, copyOf(two, 3, 2), copyOf(one, 4, 3))
	wantWork(t, m, 0, list(one, two, one, one, two), nil, copyOf(one, 4, 3), copyOf(two, 3, 2)) // each once, where it stands first
	wantWork(t, m, 0, nil, nil)
}

// P15.3: nodes that aren't there hold nothing, and get nothing.
func TestCopiesAmongThoseThatAreThere(t *testing.T) {
	m := blocks.New(2, 5)
	b := blk(1, 1)
	m.Beat(1, 0, 0, list(b))
	m.Beat(2, 1, 3, list(b))
	m.Beat(3, 2, 3, nil)
	m.Beat(4, 1, 1, nil)
	wantWork(t, m, 4, list(b), nil)
	wantWork(t, m, 5, list(b), nil, copyOf(b, 2, 4))
	wantWork(t, m, 6, list(b), nil, copyOf(b, 2, 3))
	wantWork(t, m, 8, list(b), nil)
	wantWork(t, m, math.MaxInt, list(b), nil)
	wantWork(t, m, math.MinInt, list(b), nil)
}

// P15.3: none, where nobody is left to get it, or it can't be told who is near.
func TestCopiesWithoutTo(t *testing.T) {
	m := blocks.New(64, 5)
	b, other := blk(1, 1), blk(1, 2)
	m.Beat(1, 0, 0, list(b))
	m.Beat(2, 1, 0, list(b, other))
	wantWork(t, m, 0, list(b, other), nil, copyOf(other, 2, 1))
	for _, at := range nowhere() {
		m.Beat(3, at, 0, nil) // nobody can be sent there
		wantWork(t, m, 0, list(b, other), nil, copyOf(other, 2, 1))
		m.Beat(0, at, 0, list(b, other)) // the first holder: from there nothing is near, though the next one could
		wantWork(t, m, 0, list(other, b), nil)
		m.Beat(0, at, 0, nil)
	}
}

// Words: the number of replicas is cut to its bounds.
func TestReplicas(t *testing.T) {
	b := blk(1, 1)
	for _, replicas := range []int{1, 0, -1, math.MinInt} {
		m := blocks.New(replicas, 5)
		m.Beat(1, 0, 0, list(b))
		m.Beat(2, 0, 0, nil)
		wantWork(t, m, 0, list(b), nil)
	}
	for _, replicas := range []int{api.MaxNodes, api.MaxNodes + 1, math.MaxInt} {
		m := blocks.New(replicas, 5)
		for node := range api.MaxNodes - 1 {
			m.Beat(node, 0, 0, list(b))
		}
		m.Beat(100, 7, 0, nil)
		wantWork(t, m, 0, list(b), nil, copyOf(b, 0, 100))
		m.Beat(77, 7, 0, list(b))
		wantWork(t, m, 0, list(b), nil)
	}
	m := blocks.New(api.MaxNodes-1, 5)
	for node := range api.MaxNodes - 1 {
		m.Beat(node, 0, 0, list(b))
	}
	m.Beat(100, 7, 0, nil)
	wantWork(t, m, 0, list(b), nil)
}

// P15.3: dropped is what isn't needed, and of which the call is over for good.
func TestDrops(t *testing.T) {
	m := blocks.New(1, 5)
	one, two, three, other := blk(1, 1), blk(1, 2), blk(1, 3), blk(2, 1)
	m.Beat(1, 0, 0, list(three, other, two, one))
	m.Beat(2, 1, 0, list(two, other))
	wantWork(t, m, 0, nil, nil)
	wantWork(t, m, 0, nil, []blocks.Floor{{1, 1}})
	wantWork(t, m, 0, nil, []blocks.Floor{{1, 2}}, dropOf(one, 1))
	wantWork(t, m, 0, nil, []blocks.Floor{{1, 3}}, dropOf(one, 1), dropOf(two, 1), dropOf(two, 2))
	wantWork(t, m, 0, list(two), []blocks.Floor{{1, 3}}, dropOf(one, 1))
	wantWork(t, m, 0, list(one, two, three), []blocks.Floor{{1, math.MaxInt}})
	wantWork(t, m, 0, nil, []blocks.Floor{{3, 9}, {0, 9}, {-1, 9}})
	wantWork(t, m, 0, list(two), []blocks.Floor{{2, 9}, {1, 9}}, dropOf(one, 1), dropOf(three, 1), dropOf(other, 1), dropOf(other, 2))
}

// Words: of several floors of one client the greatest counts, wherever it stands.
func TestFloors(t *testing.T) {
	m := blocks.New(2, 5)
	b := blk(1, 4)
	m.Beat(1, 0, 0, list(b, blk(-3, math.MinInt), blk(-3, math.MaxInt)))
	for _, floors := range [][]blocks.Floor{
		{{1, 5}}, {{1, 2}, {1, 5}}, {{1, 5}, {1, 2}}, {{1, 2}, {1, 5}, {1, 4}}, {{2, 9}, {1, 4}, {1, 9}, {0, 9}, {1, 0}}, {{1, math.MaxInt}, {1, math.MinInt}},
	} {
		wantWork(t, m, 0, nil, floors, dropOf(b, 1))
	}
	for _, floors := range [][]blocks.Floor{
		{{1, 4}}, {{1, 2}, {1, 4}, {1, 3}}, {{1, math.MinInt}}, {{1, 0}, {4, 9}}, {{-3, math.MinInt}},
	} {
		wantWork(t, m, 0, nil, floors)
	}
	wantWork(t, m, 0, nil, []blocks.Floor{{-3, math.MinInt}, {-3, math.MinInt + 1}}, dropOf(blk(-3, math.MinInt), 1))
	wantWork(t, m, 0, nil, []blocks.Floor{{-3, math.MaxInt}}, dropOf(blk(-3, math.MinInt), 1))
}

// P15.3: drops come node by node, each node's in the order of layer 14's List, each once; nodes that aren't there have none.
func TestOrderOfDrops(t *testing.T) {
	rising := list(named(-1, 5, 5), named(0, 9, 9), named(1, 1, 9), named(1, 2, 0), named(1, 2, 3), named(1, 2, 10), named(1, 10, 1), named(2, 0, 0), named(10, 0, 0))
	var floors []blocks.Floor
	for _, b := range rising {
		floors = append(floors, blocks.Floor{Client: b.Client, Call: 11})
	}
	var orders []blocks.Order
	for _, node := range []int{-4, 3, 20} {
		for _, b := range rising {
			orders = append(orders, dropOf(b, node))
		}
	}
	r := rand.New(rand.NewSource(1))
	for range 20 {
		m := blocks.New(2, 5)
		for _, node := range []int{20, -4, 3} {
			held := slices.Concat(rising, rising)
			r.Shuffle(len(held), func(i, j int) { held[i], held[j] = held[j], held[i] })
			m.Beat(node, 0, 10, held)
		}
		m.Beat(-9, 0, 5, rising)
		wantWork(t, m, 10, nil, floors, orders...)
	}
}

// P15.3: copies stand ahead of drops.
func TestCopiesAheadOfDrops(t *testing.T) {
	m := blocks.New(2, 5)
	needed, old := blk(1, 5), blk(1, 1)
	m.Beat(1, 0, 0, list(old))
	m.Beat(2, 1, 0, list(needed))
	wantWork(t, m, 0, list(needed), []blocks.Floor{{1, 9}}, copyOf(needed, 2, 1), dropOf(old, 1))
}

// P15.3: at most MaxOrders; the others are left out.
func TestMaxOrders(t *testing.T) {
	var many []api.Block
	for call := range 100 {
		many = append(many, blk(1, call))
	}
	m := blocks.New(2, 5)
	m.Beat(1, 0, 0, many)
	m.Beat(2, 1, 0, nil)
	var copies, drops []blocks.Order
	for _, b := range many {
		copies, drops = append(copies, copyOf(b, 1, 2)), append(drops, dropOf(b, 1))
	}
	floors := []blocks.Floor{{1, 1000}}
	wantWork(t, m, 0, many, floors, copies[:api.MaxOrders]...)
	wantWork(t, m, 0, nil, floors, drops[:api.MaxOrders]...)
	for n := range 100 {
		orders := slices.Concat(copies[:n], drops[n:])
		wantWork(t, m, 0, many[:n], floors, orders[:api.MaxOrders]...)
		wantWork(t, m, 0, many[n:], nil, copies[n:][:min(100-n, api.MaxOrders)]...)
	}
	m.Beat(2, 1, 0, many[:90]) // 90 blocks in the list need nothing, the drops are many
	wantWork(t, m, 0, many[:95], floors, slices.Concat(copies[90:95], drops[95:])...)
}

// stepBoth gives a manager and its model one Beat.
func stepBoth(r *rand.Rand, m *blocks.Manager, words *model) {
	at := complex(float64(r.Intn(8)), float64(r.Intn(8)))
	if r.Intn(8) == 0 {
		at = nowhere()[r.Intn(len(nowhere()))]
	}
	b := beat{r.Intn(7) - 1, at, r.Intn(30) - 2, someBlocks(r, 12)}
	m.Beat(b.node, b.at, b.now, b.held)
	words.beats = append(words.beats, b)
}

func someBlocks(r *rand.Rand, most int) []api.Block {
	held := make([]api.Block, r.Intn(most))
	for i := range held {
		held[i] = api.Block{Client: r.Intn(3) - 1, Call: r.Intn(3), Try: r.Intn(2)}
	}
	return held
}

// P15.1 to P15.3: any calls, one behind the other.
func TestAnyCalls(t *testing.T) {
	orders := 0
	for seed := range int64(200) {
		r := rand.New(rand.NewSource(seed))
		words := &model{replicas: r.Intn(5) - 1, life: r.Intn(30) - 1}
		m := blocks.New(words.replicas, words.life)
		for range 40 {
			stepBoth(r, m, words)
			now := r.Intn(40) - 2
			wantAlive(t, m, now, words.alive(now)...)
			for _, b := range someBlocks(r, 4) {
				wantHolders(t, m, b, now, words.holders(b, now)...)
			}
			from, n, avoid := complex(float64(r.Intn(8)), 1), r.Intn(8), r.Perm(6)[:r.Intn(6)]
			wantPlace(t, m, from, now, n, avoid, words.place(from, now, n, avoid)...)
			floors := make([]blocks.Floor, r.Intn(4))
			for i := range floors {
				floors[i] = blocks.Floor{Client: r.Intn(3) - 1, Call: r.Intn(4)}
			}
			needed := someBlocks(r, 12)
			work := words.work(now, needed, floors)
			wantWork(t, m, now, needed, floors, work...)
			orders += len(work)
			if t.Failed() {
				t.Fatalf("seed %d", seed)
			}
		}
	}
	if orders < 10000 {
		t.Errorf("only %d orders", orders)
	}
}
