package world

import (
	"mahout/api"
	"mahout/disk"
	"mahout/net"
	"mahout/record"
	"mahout/where"
)

// The nodes' numbers. That of a client, of the master and of a data node is also the one by which its process is known as a client.
const (
	headNode   = 0
	masterNode = api.MaxClients + 1
	firstData  = masterNode + 1
	mostNodes  = firstData + api.MaxData
)

// machine is a node that is up.
type machine interface {
	take(from int, m record.Message) // a letter has come
	turn()
	halt() // its processes end
}

// way lies between two nodes.
type way struct {
	a, b int
}

// text is what was written as a block.
type text struct {
	data string
}

// world is all nodes, and what lies between them.
type world struct {
	bounds
	acts      [][]Act
	net       *net.Net
	underWay  int   // letters
	cuts      []way // the ways that are cut, in the order in which they were
	all       []int // the nodes, in the order of their turns
	servers   []int // those that may crash
	data      []int // the data nodes
	up        [mostNodes]machine
	boots     [mostNodes]int
	numbers   [mostNodes]int // the last one that each node has given, in whatever boot
	disks     [mostNodes]*disk.Disk
	clients   []*client
	step, now int
	ledger    ledger
	texts     map[api.Block]text
}

func newWorld(s Script) *world {
	w := &world{bounds: boundsOf(s), acts: actsOf(s), net: net.New(mostNodes), texts: map[api.Block]text{}}
	for i := range w.nodes {
		w.data = append(w.data, firstData+i)
	}
	// The data nodes stand ahead of whoever asks for them, so that where nothing disturbs them they are known when they are wanted; and the master ahead of the clients, so that the directory of all jobs is there.
	w.servers = append([]int{headNode}, w.data...)
	w.servers = append(w.servers, masterNode)
	w.all = append(w.all, w.servers...)
	for i := range w.acts {
		w.all = append(w.all, 1+i)
	}
	for _, node := range w.servers {
		w.disks[node] = disk.New(w.room)
	}
	w.disks[headNode] = disk.New(api.MaxRoom)
	for _, node := range w.all {
		w.raise(node)
	}
	return w
}

// close ends all processes.
func (w *world) close() {
	for _, m := range w.up {
		if m != nil {
			m.halt()
		}
	}
}

// raise brings a node up, if it is down.
func (w *world) raise(node int) {
	if w.up[node] != nil {
		return
	}
	w.boots[node]++
	switch {
	case node == headNode:
		if h, opens := openHead(w); opens {
			w.up[node] = h
		}
	case node == masterNode:
		w.up[node] = newMaster(w)
	case node >= firstData:
		w.up[node] = newHolder(w, node)
	default:
		c := newClient(w, node)
		w.up[node] = c
		w.clients = append(w.clients, c)
	}
}

// nextNumber: a number that a node gives to a call, a ticket or a report. A boot goes on where the one ahead of it has ended: so what comes late is known by its number.
func (w *world) nextNumber(node int) int {
	w.numbers[node]++
	return w.numbers[node]
}

func (w *world) turn(node int) {
	if w.up[node] != nil {
		w.up[node].turn()
	}
}

func (w *world) send(from, to int, m record.Message) {
	w.post(from, to, record.Encode(m))
}

// post sends a letter. Where the net is full it is lost, as others are.
func (w *world) post(from, to int, body string) {
	if _, err := w.net.Send(from, to, body); err == api.OK {
		w.underWay++
	}
}

// deliver has the k-th letter arrive. Whoever is down doesn't get it.
func (w *world) deliver(k int) {
	letter, err := w.net.Deliver(k)
	if err != api.OK {
		return
	}
	w.underWay--
	m, err := record.Decode(letter.Body)
	if to := w.up[letter.To]; to != nil && err == api.OK {
		to.take(letter.From, m)
	}
}

// lose: the k-th letter doesn't arrive.
func (w *world) lose(k int) {
	if w.net.Drop(k) == api.OK {
		w.underWay--
	}
}

// double: the k-th letter is under way once more.
func (w *world) double(k int) {
	if w.net.Double(k) == api.OK {
		w.underWay++
	}
}

// settle: nothing fails any more, and time goes by.
func (w *world) settle() {
	if w.rounds == 0 {
		return
	}
	for len(w.cuts) > 0 {
		w.mend(0)
	}
	for _, node := range w.all {
		w.raise(node)
	}
	for range w.rounds {
		w.round()
	}
}

// round: the clock ticks, all letters arrive that are under way, and every node has a turn.
func (w *world) round() {
	w.step++
	w.now++
	for range w.underWay {
		w.deliver(0)
	}
	for _, node := range w.all {
		w.turn(node)
	}
}

// outcome: what has come of all. The name node is brought up, and what it has made lasts.
func (w *world) outcome() Outcome {
	w.raise(headNode)
	h, serving := w.up[headNode].(*head)
	if serving {
		h.node.Sync()
	}
	w.ledger.settle()
	var calls []*call
	for _, c := range w.clients {
		calls = append(calls, c.called...)
	}
	return Outcome{
		Changes: w.ledger.audited(),
		Calls:   w.ledger.auditedCalls(calls),
		Serving: serving,
		Steps:   w.step,
	}
}

// spotOf: where a node stands: the name node in the middle, data nodes about it, one turned by a quarter against the other, those of the second ring farther out; the others between them.
func spotOf(node int) complex128 {
	if node < firstData {
		at, _ := where.Spot(3*node, node)
		return where.Turn(at, node)
	}
	i := node - firstData
	at, _ := where.Spot(20+20*(i/4), 5*(i/4))
	return where.Turn(at, i)
}
