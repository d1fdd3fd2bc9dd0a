package net_test

import (
	"math"
	"math/rand"
	"slices"
	"strings"
	"testing"
	"unsafe"

	"mahout/api"
	"mahout/net"
)

func want(t *testing.T, what string, got, errno api.Errno) {
	t.Helper()
	if got != errno {
		t.Errorf("%s: %d, not %d", what, got, errno)
	}
}

func wantFlying(t *testing.T, n *net.Net, letters ...net.Letter) {
	t.Helper()
	if got := n.Flying(); !slices.Equal(got, letters) {
		t.Errorf("Flying: %v, not %v", got, letters)
	}
}

func wantSent(t *testing.T, n *net.Net, from, to int, body string, id int) {
	t.Helper()
	if got, e := n.Send(from, to, body); got != id || e != api.OK {
		t.Errorf("Send from %d to %d: %d, %d, not %d", from, to, got, e, id)
	}
}

func wantNotSent(t *testing.T, n *net.Net, from, to int, body string, errno api.Errno) {
	t.Helper()
	if got, e := n.Send(from, to, body); got != 0 || e != errno {
		t.Errorf("Send from %d to %d: %d, %d, not 0, %d", from, to, got, e, errno)
	}
}

func wantDelivered(t *testing.T, n *net.Net, k int, l net.Letter) {
	t.Helper()
	if got, e := n.Deliver(k); got != l || e != api.OK {
		t.Errorf("Deliver(%d): %v, %d, not %v", k, got, e, l)
	}
}

func wantNotDelivered(t *testing.T, n *net.Net, k int, errno api.Errno) {
	t.Helper()
	if got, e := n.Deliver(k); got != (net.Letter{}) || e != errno {
		t.Errorf("Deliver(%d): %v, %d, not %d", k, got, e, errno)
	}
}

// loaded is a net of four nodes in which these letters are under way, each from 0 to 1.
func loaded(t *testing.T, bodies ...string) *net.Net {
	t.Helper()
	n := net.New(4)
	for i, body := range bodies {
		wantSent(t, n, 0, 1, body, i+1)
	}
	return n
}

// full is a net in which MaxFlying letters are under way.
func full(t *testing.T) *net.Net {
	t.Helper()
	n := net.New(2)
	for i := range api.MaxFlying {
		wantSent(t, n, 0, 1, "", i+1)
	}
	return n
}

// noNodes are numbers that no node of a net of so many has.
func noNodes(nodes int) []int {
	return []int{nodes, nodes + 1, -1, math.MinInt, math.MaxInt, 1 << 32, -1 << 32}
}

// P5.1
func TestNew(t *testing.T) {
	for _, c := range [][2]int{{math.MinInt, 0}, {-1, 0}, {0, 0}, {1, 1}, {2, 2}, {63, 63}, {64, 64}, {65, 64}, {math.MaxInt, 64}} {
		n := net.New(c[0])
		if n == nil {
			t.Fatalf("New(%d): nil", c[0])
		}
		wantFlying(t, n)
		for _, none := range noNodes(c[1]) {
			wantNotSent(t, n, none, none, "", api.ErrArg)
			want(t, "Part", n.Part(0, none, true), api.ErrArg)
		}
		for node := range c[1] {
			wantSent(t, n, node, c[1]-1, "", node+1)
			for other := range c[1] {
				if n.Parted(node, other) {
					t.Errorf("New(%d): the way between %d and %d is cut", c[0], node, other)
				}
			}
		}
	}
}

// P5.1
func TestNetsAreApart(t *testing.T) {
	one, two := net.New(2), net.New(3)
	wantSent(t, one, 0, 1, "a", 1)
	wantSent(t, one, 1, 0, "b", 2)
	want(t, "Part", one.Part(0, 1, true), api.OK)
	wantFlying(t, two)
	wantSent(t, two, 1, 2, "c", 1)
	if two.Parted(0, 1) {
		t.Error("what is cut in one net is cut in another")
	}
	want(t, "Drop", two.Drop(0), api.OK)
	wantFlying(t, one, net.Letter{1, 0, 1, "a"}, net.Letter{2, 1, 0, "b"})
	want(t, "Part", two.Part(0, 1, false), api.OK)
	if !one.Parted(0, 1) {
		t.Error("what is mended in one net is whole in another")
	}
}

// P5.2
func TestSend(t *testing.T) {
	n := net.New(3)
	most := strings.Repeat("x", api.MaxFrame)
	wantSent(t, n, 0, 1, "a", 1)
	wantSent(t, n, 2, 0, "", 2)
	wantSent(t, n, 1, 1, "to itself", 3)
	wantSent(t, n, 0, 1, "a", 4)
	wantSent(t, n, 1, 0, "\x00\xff", 5)
	wantSent(t, n, 2, 2, most, 6)
	wantFlying(t, n, net.Letter{1, 0, 1, "a"}, net.Letter{2, 2, 0, ""}, net.Letter{3, 1, 1, "to itself"},
		net.Letter{4, 0, 1, "a"}, net.Letter{5, 1, 0, "\x00\xff"}, net.Letter{6, 2, 2, most})
}

// P5.2
func TestSendThatCannotBe(t *testing.T) {
	n := loaded(t, "a")
	long := strings.Repeat("x", api.MaxFrame+1)
	for _, none := range noNodes(4) {
		for _, body := range []string{"", "a", long} {
			wantNotSent(t, n, none, 0, body, api.ErrArg)
			wantNotSent(t, n, 0, none, body, api.ErrArg)
			wantNotSent(t, n, none, none, body, api.ErrArg)
		}
	}
	wantNotSent(t, n, 0, 1, long, api.ErrLong)
	wantNotSent(t, n, 0, 0, long, api.ErrLong)
	wantFlying(t, n, net.Letter{1, 0, 1, "a"})
	wantSent(t, n, 0, 1, "b", 2) // what wasn't sent has used up no ID
}

// P5.2
func TestSendOnAFullNet(t *testing.T) {
	n := full(t)
	wantNotSent(t, n, 0, 1, "a", api.ErrFull)
	wantNotSent(t, n, 0, 1, strings.Repeat("x", api.MaxFrame+1), api.ErrLong)
	wantNotSent(t, n, 0, 2, "a", api.ErrArg)
	if got := len(n.Flying()); got != api.MaxFlying {
		t.Errorf("under way are %d", got)
	}
	wantDelivered(t, n, 7, net.Letter{8, 0, 1, ""})
	wantSent(t, n, 1, 0, "a", api.MaxFlying+1)
	wantNotSent(t, n, 0, 1, "a", api.ErrFull)
	want(t, "Drop", n.Drop(api.MaxFlying-1), api.OK)
	wantSent(t, n, 1, 0, "b", api.MaxFlying+2)
}

// P5.2: a letter goes on a way that is cut, and isn't lost when it is cut later.
func TestSendOnACutWay(t *testing.T) {
	n := loaded(t, "a")
	want(t, "Part", n.Part(0, 1, true), api.OK)
	wantSent(t, n, 1, 0, "b", 2)
	wantFlying(t, n, net.Letter{1, 0, 1, "a"}, net.Letter{2, 1, 0, "b"})
}

// The document's example.
func TestExample(t *testing.T) {
	n := net.New(2)
	wantSent(t, n, 0, 1, "a", 1)
	wantSent(t, n, 1, 0, "b", 2)
	want(t, "Double", n.Double(0), api.OK)
	want(t, "Drop", n.Drop(0), api.OK)
	wantFlying(t, n, net.Letter{2, 1, 0, "b"}, net.Letter{1, 0, 1, "a"})
	want(t, "Part", n.Part(0, 1, true), api.OK)
	wantNotDelivered(t, n, 0, api.ErrGone)
}

// P5.3: any one of the letters is taken, and the others stay in their order.
func TestDeliverAndDrop(t *testing.T) {
	bodies := []string{"a", "b", "c", "d", "e", "f", "g"}
	for k := range bodies {
		delivered, dropped := loaded(t, bodies...), loaded(t, bodies...)
		letters := delivered.Flying()
		wantDelivered(t, delivered, k, letters[k])
		want(t, "Drop", dropped.Drop(k), api.OK)
		left := slices.Delete(letters, k, k+1)
		wantFlying(t, delivered, left...)
		wantFlying(t, dropped, left...)
		wantSent(t, delivered, 3, 2, "h", 8)
		wantFlying(t, delivered, append(left, net.Letter{8, 3, 2, "h"})...)
	}
}

// P5.3
func TestNoSuchLetter(t *testing.T) {
	empty, some := net.New(2), loaded(t, "a", "b")
	for n, ks := range map[*net.Net][]int{empty: {0, 1, -1, math.MinInt, math.MaxInt}, some: {2, 3, -1, math.MinInt, math.MaxInt}} {
		for _, k := range ks {
			wantNotDelivered(t, n, k, api.ErrArg)
			want(t, "Drop", n.Drop(k), api.ErrArg)
			want(t, "Double", n.Double(k), api.ErrArg)
		}
	}
	wantFlying(t, empty)
	wantFlying(t, some, net.Letter{1, 0, 1, "a"}, net.Letter{2, 0, 1, "b"})
	wantDelivered(t, some, 1, net.Letter{2, 0, 1, "b"})
	wantDelivered(t, some, 0, net.Letter{1, 0, 1, "a"})
	wantNotDelivered(t, some, 0, api.ErrArg)
}

// P5.3
func TestDeliverOnACutWay(t *testing.T) {
	n := net.New(3)
	there, back, itself, other := net.Letter{1, 0, 1, "a"}, net.Letter{2, 1, 0, "b"}, net.Letter{3, 0, 0, "c"}, net.Letter{4, 0, 2, "d"}
	for i, l := range []net.Letter{there, back, itself, other} {
		wantSent(t, n, l.From, l.To, l.Body, i+1)
	}
	want(t, "Part", n.Part(1, 0, true), api.OK)
	wantNotDelivered(t, n, 0, api.ErrGone)
	wantNotDelivered(t, n, 1, api.ErrGone)
	wantNotDelivered(t, n, 4, api.ErrArg)
	wantFlying(t, n, there, back, itself, other)
	wantDelivered(t, n, 3, other)
	wantDelivered(t, n, 2, itself)
	want(t, "Double on a cut way", n.Double(0), api.OK)
	want(t, "Drop on a cut way", n.Drop(0), api.OK)
	wantFlying(t, n, back, there)
	want(t, "Part", n.Part(0, 1, false), api.OK)
	wantDelivered(t, n, 0, back)
	wantDelivered(t, n, 0, there)
	wantFlying(t, n)
}

// P5.3
func TestDouble(t *testing.T) {
	n := loaded(t, "a", "b")
	a, b := net.Letter{1, 0, 1, "a"}, net.Letter{2, 0, 1, "b"}
	want(t, "Double", n.Double(1), api.OK)
	wantFlying(t, n, a, b, b)
	want(t, "Double", n.Double(0), api.OK)
	want(t, "Double of a double", n.Double(3), api.OK)
	wantFlying(t, n, a, b, b, a, a)
	wantSent(t, n, 1, 0, "c", 3) // a double has used up no ID
	wantDelivered(t, n, 0, a)
	wantDelivered(t, n, 2, a)
	wantDelivered(t, n, 2, a)
	wantFlying(t, n, b, b, net.Letter{3, 1, 0, "c"})
}

// P5.3
func TestDoubleOnAFullNet(t *testing.T) {
	n := full(t)
	want(t, "Double", n.Double(0), api.ErrFull)
	want(t, "Double of the last one", n.Double(api.MaxFlying-1), api.ErrFull)
	want(t, "Double of none", n.Double(api.MaxFlying), api.ErrArg)
	want(t, "Double of none", n.Double(-1), api.ErrArg)
	want(t, "Drop", n.Drop(5), api.OK)
	want(t, "Double", n.Double(5), api.OK)
	want(t, "Double", n.Double(5), api.ErrFull)
	letters := n.Flying()
	if len(letters) != api.MaxFlying || letters[5].ID != 7 || letters[api.MaxFlying-1].ID != 7 {
		t.Errorf("under way are %d, the 5th with the ID %d, the last one with %d", len(letters), letters[5].ID, letters[len(letters)-1].ID)
	}
}

// P5.3: many letters don't cost more, each, than few, from either end.
func TestManyLetters(t *testing.T) {
	n := full(t)
	for i := range 20 * api.MaxFlying {
		wantDelivered(t, n, 0, net.Letter{i + 1, 0, 1, ""})
		wantSent(t, n, 0, 1, "", api.MaxFlying+i+1)
	}
	for k := api.MaxFlying - 1; k >= 0; k-- {
		want(t, "Drop", n.Drop(k), api.OK)
	}
	wantFlying(t, n)
}

// shares: do two texts lie in the same memory?
func shares(a, b string) bool {
	return unsafe.StringData(a) == unsafe.StringData(b)
}

// P5.3: an answer is new memory, and what is handed in isn't kept.
func TestAnswersAreNewMemory(t *testing.T) {
	body := strings.Repeat("a", 3)
	n := loaded(t, body, "b")
	want(t, "Double", n.Double(0), api.OK)
	one, two := n.Flying(), n.Flying()
	if shares(one[0].Body, body) || shares(one[0].Body, two[0].Body) || shares(one[0].Body, one[2].Body) {
		t.Error("Flying: a text is shared")
	}
	one[0], one[1] = net.Letter{}, net.Letter{9, 9, 9, "x"}
	_ = append(one[:0], net.Letter{})
	a, b := net.Letter{1, 0, 1, "aaa"}, net.Letter{2, 0, 1, "b"}
	wantFlying(t, n, a, b, a)
	first, _ := n.Deliver(0)
	if shares(first.Body, body) || shares(first.Body, two[0].Body) || shares(first.Body, n.Flying()[1].Body) {
		t.Error("Deliver: a text is shared")
	}
	if second, _ := n.Deliver(1); second != a || shares(first.Body, second.Body) {
		t.Error("Deliver of a double: the text is shared")
	}
	if !slices.Equal(two, []net.Letter{a, b, a}) {
		t.Errorf("an answer is %v now", two)
	}
}

// P5.4
func TestPart(t *testing.T) {
	n := net.New(api.MaxNodes)
	last := api.MaxNodes - 1
	wantCut := func(ways ...[2]int) {
		t.Helper()
		for a := range api.MaxNodes {
			for b := range api.MaxNodes {
				cut := slices.Contains(ways, [2]int{a, b}) || slices.Contains(ways, [2]int{b, a})
				if n.Parted(a, b) != cut {
					t.Errorf("Parted(%d, %d): %v", a, b, !cut)
				}
			}
		}
	}
	wantCut()
	want(t, "mending of what is whole", n.Part(0, 1, false), api.OK)
	want(t, "cutting", n.Part(0, 1, true), api.OK)
	want(t, "cutting", n.Part(last, 1, true), api.OK)
	want(t, "cutting", n.Part(2, 3, true), api.OK)
	wantCut([2]int{0, 1}, [2]int{1, last}, [2]int{2, 3})
	want(t, "cutting of what is cut", n.Part(1, 0, true), api.OK)
	wantCut([2]int{0, 1}, [2]int{1, last}, [2]int{2, 3})
	want(t, "mending from the other end", n.Part(1, 0, false), api.OK)
	wantCut([2]int{1, last}, [2]int{2, 3})
	want(t, "mending a second time", n.Part(0, 1, false), api.OK)
	want(t, "mending", n.Part(last, 1, false), api.OK)
	wantCut([2]int{2, 3})
	want(t, "cutting anew", n.Part(0, 1, true), api.OK)
	wantCut([2]int{2, 3}, [2]int{0, 1})
}

// P5.4
func TestPartThatCannotBe(t *testing.T) {
	n := net.New(3)
	want(t, "Part", n.Part(0, 1, true), api.OK)
	for _, cut := range []bool{true, false} {
		for node := range 3 {
			want(t, "of a node and itself", n.Part(node, node, cut), api.ErrArg)
			if n.Parted(node, node) {
				t.Errorf("Parted(%d, %d)", node, node)
			}
			for _, none := range noNodes(3) {
				want(t, "of a node and none", n.Part(node, none, cut), api.ErrArg)
				want(t, "of none and a node", n.Part(none, node, cut), api.ErrArg)
				want(t, "of none and itself", n.Part(none, none, cut), api.ErrArg)
				if n.Parted(node, none) || n.Parted(none, node) || n.Parted(none, none) {
					t.Errorf("Parted of %d and %d", node, none)
				}
			}
		}
	}
	if !n.Parted(0, 1) || n.Parted(0, 2) || n.Parted(1, 2) {
		t.Error("a Part that was refused has cut or mended a way")
	}
}

// P5.5
func TestNil(t *testing.T) {
	var n *net.Net
	wantNotSent(t, n, 0, 0, "", api.ErrArg)
	wantNotSent(t, n, 0, 0, strings.Repeat("x", api.MaxFrame+1), api.ErrArg)
	wantNotDelivered(t, n, 0, api.ErrArg)
	want(t, "Drop", n.Drop(0), api.ErrArg)
	want(t, "Double", n.Double(0), api.ErrArg)
	want(t, "Part", n.Part(0, 1, true), api.ErrArg)
	want(t, "Part", n.Part(0, 1, false), api.ErrArg)
	wantFlying(t, n)
	if n.Parted(0, 1) {
		t.Error("Parted")
	}
}

// model is a net as the words tell it.
type model struct {
	nodes, sent int
	flying      []net.Letter
	cut         [5][5]bool
}

func (m *model) isNode(a int) bool {
	return a >= 0 && a < m.nodes
}

func (m *model) send(from, to int, body string) (int, api.Errno) {
	if !m.isNode(from) || !m.isNode(to) {
		return 0, api.ErrArg
	}
	m.sent++
	m.flying = append(m.flying, net.Letter{m.sent, from, to, body})
	return m.sent, api.OK
}

// take is a Deliver, or (where the way is of no matter) a Drop.
func (m *model) take(k int, byWay bool) (net.Letter, api.Errno) {
	if k < 0 || k >= len(m.flying) {
		return net.Letter{}, api.ErrArg
	}
	l := m.flying[k]
	if byWay && m.cut[l.From][l.To] {
		return net.Letter{}, api.ErrGone
	}
	m.flying = append(slices.Clone(m.flying[:k]), m.flying[k+1:]...)
	return l, api.OK
}

func (m *model) part(a, b int, cut bool) api.Errno {
	if !m.isNode(a) || !m.isNode(b) || a == b {
		return api.ErrArg
	}
	m.cut[a][b], m.cut[b][a] = cut, cut
	return api.OK
}

// step does one call on both.
func step(t *testing.T, r *rand.Rand, n *net.Net, m *model) {
	t.Helper()
	a, b := r.Intn(m.nodes+2)-1, r.Intn(m.nodes+2)-1
	k := r.Intn(len(m.flying)+2) - 1
	switch r.Intn(9) {
	case 0, 1, 2:
		body := "abc"[:r.Intn(4)]
		got, e := n.Send(a, b, body)
		if id, errno := m.send(a, b, body); got != id || e != errno {
			t.Errorf("Send(%d, %d): %d, %d, not %d, %d", a, b, got, e, id, errno)
		}
	case 3, 4:
		got, e := n.Deliver(k)
		if l, errno := m.take(k, true); got != l || e != errno {
			t.Errorf("Deliver(%d): %v, %d, not %v, %d", k, got, e, l, errno)
		}
	case 5:
		_, errno := m.take(k, false)
		want(t, "Drop", n.Drop(k), errno)
	case 6:
		errno := api.ErrArg
		if k >= 0 && k < len(m.flying) {
			m.flying, errno = append(m.flying, m.flying[k]), api.OK
		}
		want(t, "Double", n.Double(k), errno)
	default:
		cut := r.Intn(2) == 0
		want(t, "Part", n.Part(a, b, cut), m.part(a, b, cut))
	}
}

// P5.1 to P5.4: any calls, one behind the other.
func TestAnyCalls(t *testing.T) {
	for seed := range int64(300) {
		r := rand.New(rand.NewSource(seed))
		nodes := 1 + r.Intn(5)
		n, m := net.New(nodes), &model{nodes: nodes}
		for range 150 {
			step(t, r, n, m)
			wantFlying(t, n, m.flying...)
			for a := range nodes {
				for b := range nodes {
					if n.Parted(a, b) != m.cut[a][b] {
						t.Errorf("Parted(%d, %d): %v", a, b, n.Parted(a, b))
					}
				}
			}
			if t.Failed() {
				t.Fatalf("seed %d", seed)
			}
		}
	}
}
