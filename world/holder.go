package world

import (
	"mahout/api"
	"mahout/blocks"
	"mahout/crc"
	"mahout/record"
	"mahout/store"
)

// holder is a data node: its replicas, and its worker with what it has mapped.
type holder struct {
	w       *world
	number  int
	store   *store.Store
	worker  *worker
	outputs map[int][][]api.Pair // of each ticket the pairs of each part
	report  int                  // the number of the last whole report
	beaten  int                  // when the last report was given
	told    []api.Block          // what it said that it holds
	looked  int                  // the number among these of the replica that was looked at last
	news    bool                 // it holds something else now
}

func newHolder(w *world, number int) *holder {
	s, _ := store.Open(w.disks[number]) // there is a disk
	h := &holder{
		w:       w,
		number:  number,
		store:   s,
		outputs: map[int][][]api.Pair{},
		news:    true,
	}
	h.worker = newWorker(w, h)
	return h
}

func (h *holder) halt() {
	h.worker.halt()
}

func (h *holder) take(from int, m record.Message) {
	switch m.Kind {
	case record.Store:
		h.lay(from, m)
	case record.Fetch:
		h.fetch(from, m)
	case record.Orders:
		h.obey(m)
	case record.Shuffle:
		h.shuffle(from, m)
	default:
		h.worker.take(from, m)
	}
}

// reply answers a message.
func (h *holder) reply(to int, m, answer record.Message) {
	answer.Client, answer.Call = m.Client, m.Call
	h.w.send(h.number, to, answer)
}

// lay stores a block.
func (h *holder) lay(from int, m record.Message) {
	data, code := m.T[0], api.ErrBad
	if int(crc.Sum(data)) == m.N[3] {
		code = h.store.Write(blockOf(m.N), data)
	}
	h.news = true
	h.reply(from, m, record.Message{Kind: record.Stored, N: []int{int(code)}})
}

func (h *holder) fetch(from int, m record.Message) {
	data, code := h.store.Read(blockOf(m.N))
	h.news = h.news || code == api.ErrBad // then it is gone
	h.reply(from, m, record.Message{Kind: record.Data, N: []int{int(code)}, T: []string{data}})
}

// held: the bytes of a block that is held here; empty, where it isn't.
func (h *holder) held(b api.Block) string {
	data, code := h.store.Read(b)
	h.news = h.news || code == api.ErrBad
	return data
}

// obey does what the name node orders; where that is nothing, it wants a whole report.
func (h *holder) obey(m record.Message) {
	h.news = h.news || len(m.N) == 0
	for n := m.N; len(n) > 0; n = n[5:] {
		b := blockOf(n[1:])
		switch n[0] {
		case blocks.Copy:
			if data := h.held(b); data != "" {
				h.w.send(h.number, n[4], storeOf(b, data)) // nobody waits for the answer: the other one's next report tells
			}
		case blocks.Drop:
			h.store.Drop(b)
			h.news = true
		}
	}
}

// shuffle gives some of the pairs of a part that were mapped here, from one on, and tells how many there are; -1, where none were mapped.
func (h *holder) shuffle(from int, m record.Message) {
	ticket, part, first := m.N[0], m.N[1], m.N[2]
	pairs, there := h.mapped(ticket, part)
	answer := record.Message{Kind: record.Pairs, N: []int{-1}}
	if there {
		answer.N[0] = len(pairs)
		bytes := 0
		for _, p := range pairs[cut(first, 0, len(pairs)):] {
			bytes += len(p.Key) + len(p.Value) + pairAround
			if bytes > mostPairs && len(answer.T) > 0 {
				break
			}
			answer.T = append(answer.T, p.Key, p.Value)
		}
	}
	h.reply(from, m, answer)
}

// mapped: the pairs of a part that were mapped here.
func (h *holder) mapped(ticket, part int) ([]api.Pair, bool) {
	parts, there := h.outputs[ticket]
	if !there || part < 0 || part >= len(parts) {
		return nil, false
	}
	return parts[part], true
}

// forget drops what was mapped for tickets ahead of one.
func (h *holder) forget(oldest int) {
	for ticket := range h.outputs {
		if ticket < oldest {
			delete(h.outputs, ticket)
		}
	}
}

func (h *holder) turn() {
	if h.news || h.w.now >= h.beaten+beatEvery {
		h.beat()
	}
	h.worker.turn()
}

// beat tells the name node what is held here, or that this is what an earlier report told. One replica is looked at each time, so that in the end a bad one is found that nobody reads.
func (h *holder) beat() {
	if len(h.told) > 0 {
		h.looked = (h.looked + 1) % len(h.told)
		h.held(h.told[h.looked])
	}
	m := record.Message{Kind: record.Beat, Client: h.number, N: []int{-h.report}}
	if h.news {
		h.told = h.store.List()
		h.report = h.w.nextNumber(h.number)
		m.N[0] = h.report
		for _, b := range h.told {
			m.N = append(m.N, b.Client, b.Call, b.Try)
		}
	}
	h.beaten, h.news = h.w.now, false
	h.w.send(h.number, headNode, m)
}
