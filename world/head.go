package world

import (
	"slices"

	"mahout/api"
	"mahout/audit"
	"mahout/blocks"
	"mahout/disk"
	"mahout/leases"
	"mahout/names"
	"mahout/record"
	"mahout/tree"
)

// head is the name node: its heart on its disk, and what it knows in memory alone.
type head struct {
	w       *world
	disk    *disk.Disk
	boot    int
	node    *names.Node
	leases  *leases.Table
	blocks  *blocks.Manager
	moments map[int]moment // of each client's last call
	ats     []int          // of each answer that waits how many changes were made ahead of it
	beats   map[int]beat   // of each data node the last one that was whole
	alive   []int          // the data nodes that were there when orders were last given
	news    bool           // there may be something to order
	ordered int            // when orders were last given
}

// moment is how many changes were made ahead of a call.
type moment struct {
	call, at int
}

// beat is a data node's report: its number, and what was held then.
type beat struct {
	number int
	held   []api.Block
}

// openHead: the name node comes up; false, where its disk doesn't let it.
func openHead(w *world) (*head, bool) {
	boot := w.boots[headNode]
	node, err := names.Open(w.disks[headNode], boot, rollEvery)
	if err != api.OK {
		return nil, false
	}
	h := &head{
		w:       w,
		disk:    w.disks[headNode],
		boot:    boot,
		node:    node,
		leases:  leases.New(leaseLength),
		blocks:  blocks.New(w.replicas, life),
		moments: map[int]moment{},
		beats:   map[int]beat{},
	}
	for _, e := range node.Entries() {
		if e.Open { // nobody knows any more when the holder was last heard of
			h.leases.Grant(e.Path, e.Holder, w.now)
		}
	}
	return h, true
}

func (h *head) halt() {}

func (h *head) take(from int, m record.Message) {
	if m.Kind != record.Beat { // a node that is there says nothing of who wrote files on it ahead of its last boot
		h.leases.Renew(m.Client, h.w.now)
	}
	switch m.Kind {
	case record.Change, record.Look, record.Names:
		h.ask(m)
	case record.Place:
		h.place(from, m)
	case record.Find:
		h.find(from, m)
	case record.Beat:
		h.beat(from, m)
	}
}

// ask hands a message to the heart.
func (h *head) ask(m record.Message) {
	made, waiting, used := h.node.Made(), h.node.Waiting(), h.disk.Used()
	at := h.momentOf(m)
	answers := h.node.Ask(m)
	if h.node.Made() > made {
		op, _ := record.Op(m)
		h.enter(op, m.Client, m.Call, used)
	}
	if h.node.Waiting() > waiting {
		h.ats = append(h.ats, at)
	}
	for _, a := range answers {
		h.answer(a, at)
	}
}

// momentOf: how many changes were made ahead of a call. A change that is asked for again was done, or refused, when it came first.
func (h *head) momentOf(m record.Message) int {
	at := h.w.ledger.count()
	if m.Kind != record.Change || m.N[len(m.N)-1] != h.boot {
		return at
	}
	last := h.moments[m.Client]
	if last.call == m.Call {
		return last.at
	}
	if last.call < m.Call {
		h.moments[m.Client] = moment{m.Call, at}
	}
	return at
}

// enter notes a change that was just made. Ahead of it so many bytes were used on the disk.
func (h *head) enter(op tree.Op, client, call, used int) {
	c := change{call: call, size: h.disk.Used() - used}
	c.Change = audit.Change{Step: h.w.step, Client: client, Op: op}
	if op.Kind == tree.Add {
		c.Data = h.w.texts[op.Piece.Block].data
	}
	h.w.ledger.add(c)
	h.news = true
	switch op.Kind {
	case tree.Create:
		h.leases.Grant(op.Path, op.Client, h.w.now)
	case tree.Close, tree.Delete:
		h.leases.Drop(op.Path)
	}
}

// answer sends an answer to whoever asked, with its moment as the last number.
func (h *head) answer(a record.Message, at int) {
	a.N = append(slices.Clone(a.N), at)
	h.w.send(headNode, a.Client, a)
}

// place: where a new block should go.
func (h *head) place(from int, m record.Message) {
	nodes := h.blocks.Place(spotOf(m.N[0]), h.w.now, h.w.replicas, m.N[1:])
	h.w.send(headNode, from, record.Message{Kind: record.Spots, Client: m.Client, Call: m.Call, N: append([]int{len(nodes)}, nodes...)})
}

// find: of each block how many nodes hold it, and which.
func (h *head) find(from int, m record.Message) {
	var spots []int
	for n := m.N; len(n) > 0; n = n[3:] {
		holders := h.blocks.Holders(blockOf(n), h.w.now)
		spots = append(append(spots, len(holders)), holders...)
	}
	h.w.send(headNode, from, record.Message{Kind: record.Spots, Client: m.Client, Call: m.Call, N: spots})
}

// blockOf: the block that stands first in a list of numbers.
func blockOf(n []int) api.Block {
	return api.Block{Client: n[0], Call: n[1], Try: n[2]}
}

// beat: a data node tells what it holds, or, by the number of an earlier report with the sign turned, that it holds what it told then.
func (h *head) beat(from int, m record.Message) {
	last := h.beats[from]
	switch number := m.N[0]; {
	case number > last.number:
		var held []api.Block
		for n := m.N[1:]; len(n) > 0; n = n[3:] {
			held = append(held, blockOf(n))
		}
		h.news = h.news || !slices.Equal(held, last.held)
		last = beat{number, held}
		h.beats[from] = last
	case -number > last.number: // that report is lost, or was given to an earlier boot
		h.w.send(headNode, from, record.Message{Kind: record.Orders})
		return
	case -number < last.number: // it tells of earlier times
		return
	}
	h.blocks.Beat(from, spotOf(from), h.w.now, last.held)
}

func (h *head) turn() {
	h.expire()
	answers := h.node.Sync()
	h.w.ledger.settle()
	for i, a := range answers {
		h.answer(a, h.ats[i])
	}
	h.ats = nil
	h.order()
}

// expire closes the files whose holders are gone.
func (h *head) expire() {
	for _, path := range h.leases.Due(h.w.now) {
		used := h.disk.Used()
		if h.node.Expire(path) == api.OK {
			h.enter(tree.Op{Kind: tree.Expire, Path: path}, 0, 0, used)
		}
		h.leases.Drop(path) // also where the file is gone, or closed
	}
}

// order tells data nodes what to copy and what to drop. All changes last now: so nothing is dropped that could be needed again behind a crash.
func (h *head) order() {
	now := h.w.now
	alive := h.blocks.Alive(now)
	if now < h.ordered+orderEvery || !h.news && slices.Equal(alive, h.alive) {
		return
	}
	orders := h.blocks.Work(now, h.needed(), h.floors())
	h.alive, h.ordered, h.news = alive, now, len(orders) > 0
	for _, node := range alive {
		var n []int
		for _, o := range orders {
			if o.Node == node {
				n = append(n, o.Kind, o.Block.Client, o.Block.Call, o.Block.Try, o.To)
			}
		}
		if len(n) > 0 {
			h.w.send(headNode, node, record.Message{Kind: record.Orders, N: n})
		}
	}
}

// needed: the blocks of all files.
func (h *head) needed() []api.Block {
	var list []api.Block
	for _, e := range h.node.Entries() {
		for _, p := range e.Pieces {
			list = append(list, p.Block)
		}
	}
	return list
}

// floors: of each client the last call that made a change. What it did in earlier ones isn't taken any more.
func (h *head) floors() []blocks.Floor {
	var floors []blocks.Floor
	for _, s := range h.node.Seen() {
		floors = append(floors, blocks.Floor{Client: s.Client, Call: s.Call})
	}
	return floors
}
