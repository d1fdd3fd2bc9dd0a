package blocks_test

import (
	"math"
	"math/rand"
	"slices"
	"testing"

	"mahout/api"
	"mahout/blocks"
	"mahout/where"
)

// The chapter's example.
func TestExample(t *testing.T) {
	b := api.Block{Client: 1, Call: 2, Try: 3}
	m := blocks.New(2, 5)
	m.Beat(1, 0, 0, list(b))
	m.Beat(2, 3, 0, nil)
	wantWork(t, m, 1, list(b), nil, copyOf(b, 1, 2))
	wantWork(t, m, 1, nil, []blocks.Floor{{Client: 1, Call: 3}}, dropOf(b, 1))
}

// P15.1: no node is known at first.
func TestNew(t *testing.T) {
	for _, n := range []int{2, 0, -1, math.MinInt, math.MaxInt} {
		m := blocks.New(n, n)
		if m == nil {
			t.Fatalf("New(%d, %d): nil", n, n)
		}
		wantAlive(t, m, 0)
		wantAlive(t, m, math.MaxInt)
		wantHolders(t, m, blk(0, 0), 0)
		wantPlace(t, m, 0, 0, 1, nil)
		wantWork(t, m, 0, list(blk(0, 0)), []blocks.Floor{{0, 1}})
	}
}

// P15.1: nodes rise, whatever the order of the Beats; any number is a node.
func TestAlive(t *testing.T) {
	rising := []int{math.MinInt, -70, -1, 0, 1, 2, 63, 64, 1000, math.MaxInt}
	for seed := range int64(20) {
		r := rand.New(rand.NewSource(seed))
		m := blocks.New(2, 5)
		for _, i := range r.Perm(len(rising)) {
			m.Beat(rising[i], complex(float64(i), 0), 10, list(blk(1, 1)))
		}
		wantAlive(t, m, 14, rising...)
		wantHolders(t, m, blk(1, 1), 14, rising...)
		wantHolders(t, m, blk(1, 2), 14)
	}
}

// Words: from now - life + 1 on it is there; of several Beats the last one counts, though its moment be earlier.
func TestWhoIsThere(t *testing.T) {
	m := blocks.New(2, 5)
	b := blk(1, 1)
	m.Beat(1, 0, 10, list(b))
	m.Beat(2, 1, 12, list(b))
	wantAlive(t, m, 0, 1, 2) // ahead of the Beats' own moments too
	wantAlive(t, m, 14, 1, 2)
	wantAlive(t, m, 15, 2)
	wantHolders(t, m, b, 14, 1, 2)
	wantHolders(t, m, b, 15, 2)
	wantAlive(t, m, 16, 2)
	wantAlive(t, m, 17)
	wantHolders(t, m, b, 17)
	wantAlive(t, m, 14, 1, 2) // asking changes nothing
	m.Beat(1, 0, 20, list(b))
	wantAlive(t, m, 24, 1)
	m.Beat(1, 0, 5, list(b))
	wantAlive(t, m, 9, 1, 2)
	wantAlive(t, m, 10, 2)
}

// P15.1: of a node is known what its last Beat told, and nothing else.
func TestBeatForgets(t *testing.T) {
	m := blocks.New(2, 5)
	one, two, three := blk(1, 1), blk(1, 2), blk(2, 1)
	m.Beat(1, 0, 0, list(one, two))
	m.Beat(2, 10, 0, list(two))
	m.Beat(1, 9, 1, list(three, two))
	wantHolders(t, m, one, 1)
	wantHolders(t, m, two, 1, 1, 2)
	wantHolders(t, m, three, 1, 1)
	wantPlace(t, m, 9, 1, 1, nil, 1)
	wantPlace(t, m, 0, 1, 1, nil, 1) // 9 is nearer than 10: nothing stands at 0 any more
	m.Beat(1, 0.5, 1, nil)
	wantAlive(t, m, 1, 1, 2)
	wantHolders(t, m, two, 1, 2)
	wantPlace(t, m, 0, 1, 2, nil, 2)
}

// P15.1: a block is another one where one of its three numbers is; held may be in any order, and tell one twice.
func TestHolders(t *testing.T) {
	held := list(named(5, 5, 5), named(-1, 3, 0), named(5, 5, 5), named(math.MaxInt, 0, math.MinInt), named(5, 4, 9), named(0, 0, 0), named(5, 5, 4), named(math.MinInt, 0, math.MaxInt))
	m := blocks.New(2, 5)
	m.Beat(3, 0, 0, held)
	m.Beat(4, 0, 0, held[:1])
	for _, b := range held[1:] {
		if b != held[0] {
			wantHolders(t, m, b, 0, 3)
		}
	}
	wantHolders(t, m, held[0], 0, 3, 4)
	for _, b := range list(named(5, 5, 6), named(5, 6, 5), named(6, 5, 5), named(4, 5, 5), named(1, 0, 0), named(0, 1, 0), named(0, 0, -1)) {
		wantHolders(t, m, b, 0)
	}
}

// Moments and lengths are cut to their bounds, as layer 11's.
func TestBounds(t *testing.T) {
	for _, life := range []int{1, 0, -1, math.MinInt} {
		m := blocks.New(2, life)
		m.Beat(1, 0, 10, nil)
		wantAlive(t, m, 10, 1)
		wantAlive(t, m, 11)
	}
	for _, life := range []int{api.MaxTime, api.MaxTime + 1, math.MaxInt} {
		m := blocks.New(2, life)
		m.Beat(1, 0, 0, nil)
		m.Beat(2, 0, 1, nil)
		wantAlive(t, m, api.MaxTime-1, 1, 2)
		wantAlive(t, m, api.MaxTime, 2)
		wantAlive(t, m, math.MaxInt, 2)
	}
	for _, early := range []int{0, -1, -5, math.MinInt} {
		m := blocks.New(2, 3)
		m.Beat(1, 0, early, nil)
		wantAlive(t, m, early, 1)
		wantAlive(t, m, 2, 1)
		wantAlive(t, m, 3)
	}
	for _, late := range []int{api.MaxTime, api.MaxTime + 1, math.MaxInt} {
		m := blocks.New(2, 3)
		m.Beat(1, 0, late, nil)
		m.Beat(2, 0, api.MaxTime-3, nil)
		wantAlive(t, m, late, 1)
		wantAlive(t, m, api.MaxTime-1, 1, 2)
	}
}

// P15.2
func TestPlace(t *testing.T) {
	m := blocks.New(2, 5)
	places := []complex128{10, 1, 2, 5i, 0.5}
	for i, at := range places {
		m.Beat(10*i+3, at, 0, nil) // nodes 3, 13, 23, 33, 43: the last one stands nowhere
	}
	m.Beat(1, 0, -9, nil)
	m.Beat(99, 0, 0, nil)
	m.Beat(99, 0, 9, nil)
	wantPlace(t, m, 0, 9, 3, nil, 99) // the others are gone
	m.Beat(99, 200, 0, nil)
	wantPlace(t, m, 0, 4, 1, nil, 1)
	wantPlace(t, m, 0, 4, 1, []int{1}, 13)
	wantPlace(t, m, 0, 4, 3, []int{1}, 13, 99, 3)
	wantPlace(t, m, 0, 4, 3, []int{99, 1, 7, 1}, 13, 3, 33)
	wantPlace(t, m, 0, 4, math.MaxInt, []int{99, 1}, 13, 3, 33, 23) // 43 isn't anywhere
	wantPlace(t, m, 0, 4, 2, []int{1, 3, 13, 23, 33, 99})
	for _, n := range []int{0, -1, math.MinInt} {
		wantPlace(t, m, 0, 4, n, nil)
	}
	for _, from := range nowhere() {
		wantPlace(t, m, from, 4, 3, nil)
	}
}

// P15.2: where two are alike the smaller number stands ahead, for the places rise with the nodes.
func TestPlaceOfWhatIsAlike(t *testing.T) {
	m := blocks.New(2, 5)
	for _, node := range []int{7, -2, 5} {
		m.Beat(node, 4, 0, nil)
	}
	wantPlace(t, m, 0, 0, 2, nil, -2, 5)
	wantPlace(t, m, 0, 0, 3, []int{5}, -2, 7)
}

// P15.2: it is layer 3's Spread.
func TestPlaceIsSpread(t *testing.T) {
	r := rand.New(rand.NewSource(1))
	for range 300 {
		m := blocks.New(2, 5)
		places := make([]complex128, r.Intn(10))
		for i := range places {
			places[i] = complex(float64(r.Intn(5)), float64(r.Intn(5))/float64(1+r.Intn(2)))
			m.Beat(i, places[i], 0, nil)
		}
		from, n := complex(float64(r.Intn(5)), 0), r.Intn(12)-1
		wantPlace(t, m, from, 0, n, nil, where.Spread(from, places, n)...)
	}
}

// P15.4
func TestNil(t *testing.T) {
	var m *blocks.Manager
	m.Beat(1, 0, 0, list(blk(1, 1)))
	wantAlive(t, m, 0)
	wantHolders(t, m, blk(1, 1), 0)
	wantPlace(t, m, 0, 0, 1, nil)
	wantPlace(t, m, 0, 0, 1, []int{1})
	wantWork(t, m, 0, list(blk(1, 1)), []blocks.Floor{{1, 2}})
}

// What is handed in is neither changed nor kept, and an answer is new memory.
func TestNothingIsShared(t *testing.T) {
	room := list(blk(2, 1), blk(1, 1), blk(2, 1), blk(0, 9))
	before := slices.Clone(room)
	one, two := blocks.New(3, 5), blocks.New(3, 5)
	one.Beat(1, 0, 0, room[:3])
	one.Beat(2, 1, 0, nil)
	avoid := []int{9, 2, 9}
	one.Place(0, 0, 2, avoid[:2])
	needed, floors := list(blk(2, 1), blk(1, 1), blk(2, 1)), []blocks.Floor{{1, 5}, {0, 9}, {1, 3}}
	one.Work(0, needed[:2], floors[:2])
	if !slices.Equal(room, before) || !slices.Equal(avoid, []int{9, 2, 9}) || !slices.Equal(needed, list(blk(2, 1), blk(1, 1), blk(2, 1))) || !slices.Equal(floors, []blocks.Floor{{1, 5}, {0, 9}, {1, 3}}) {
		t.Errorf("what was handed in is %v, %v, %v, %v now", room, avoid, needed, floors)
	}
	room[0], room[1] = blk(7, 7), blk(8, 8)
	wantHolders(t, one, blk(2, 1), 0, 1)
	wantHolders(t, one, blk(7, 7), 0)
	wantAlive(t, two, 0)
	for range 2 { // each time the answer is spoilt
		wantAlive(t, one, 0, 1, 2)
		one.Alive(0)[0] = 77
		wantHolders(t, one, blk(1, 1), 0, 1)
		one.Holders(blk(1, 1), 0)[0] = 77
		wantPlace(t, one, 0, 0, 2, nil, 1, 2)
		one.Place(0, 0, 2, nil)[1] = 77
		wantWork(t, one, 0, list(blk(1, 1)), nil, copyOf(blk(1, 1), 1, 2))
		one.Work(0, list(blk(1, 1)), nil)[0] = blocks.Order{}
	}
}
