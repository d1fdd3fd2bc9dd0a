package names

import (
	"mahout/api"
	"mahout/record"
	"mahout/rpc"
	"mahout/tree"
)

// bootAt is the place of the boot among the numbers of a Change.
const bootAt = 8

// waiting is an answer that hangs on records which don't last yet.
type waiting struct {
	record.Message
	isReply bool // to a change: it's what the desk is to know
}

// answer: to a client's call, with an error's number.
func (n *Node) answer(client, call int, code api.Errno) record.Message {
	return record.Message{Kind: record.Answer, Client: client, Call: call, N: []int{int(code), n.boot}}
}

// give: an answer that may be given now.
func (n *Node) give(w waiting) record.Message {
	if w.isReply {
		// Not sooner: what is known to the desk is given at once to whoever asks again. (Where the client has begun a later call, the desk has forgotten this one.)
		n.desk.Reply(w.Client, w.Call, record.Encode(w.Message))
	}
	return w.Message
}

// giveOrWait: the answer, where all records last; else it waits for the next Sync.
func (n *Node) giveOrWait(w waiting) []record.Message {
	if !n.Clean() {
		n.waiting = append(n.waiting, w)
		return nil
	}
	return []record.Message{n.give(w)}
}

// look: what there is to say of a path.
func (n *Node) look(m record.Message) []record.Message {
	info, err := n.tree.Stat(m.T[0])
	a := n.answer(m.Client, m.Call, err)
	if err == api.OK {
		a.N = append(a.N, numbersOf(info)...)
	}
	return n.giveOrWait(waiting{Message: a})
}

// numbersOf: an info as an answer tells it.
func numbersOf(info tree.Info) []int {
	all := []int{flag(info.Dir), flag(info.Open), info.Holder, info.Quota, info.Count, info.Size}
	for _, p := range info.Pieces {
		all = append(all, p.Block.Client, p.Block.Call, p.Block.Try, p.Size, int(p.Sum))
	}
	return all
}

func flag(b bool) int {
	if b {
		return 1
	}
	return 0
}

// list: the names in a directory.
func (n *Node) list(m record.Message) []record.Message {
	names, err := n.tree.List(m.T[0])
	a := n.answer(m.Client, m.Call, err)
	a.T = names
	return n.giveOrWait(waiting{Message: a})
}

// change: what a client's change comes to, which is done at most once.
func (n *Node) change(m record.Message) []record.Message {
	if m.N[bootAt] != n.boot {
		return []record.Message{n.answer(m.Client, m.Call, api.ErrStale)}
	}
	verdict, reply := n.desk.Ask(m.Client, m.Call)
	switch verdict {
	case rpc.New:
		a := n.answer(m.Client, m.Call, n.carryOut(m))
		return n.giveOrWait(waiting{Message: a, isReply: true})
	case rpc.Done:
		known, _ := record.Decode(reply) // the desk has nothing but answers
		return []record.Message{known}
	}
	return nil
}

// carryOut: does a client's call.
func (n *Node) carryOut(m record.Message) api.Errno {
	op, err := record.Op(m)
	switch {
	case err != api.OK:
		return api.ErrForm
	case op.Kind == tree.Expire: // the name node's own
		return api.ErrArg
	}
	err = n.do(m.Client, m.Call, op)
	if err == api.OK {
		n.changed[m.Client] = m.Call
	}
	return err
}

// do makes a change, but not ahead of its record: where that can't be written nothing has changed.
func (n *Node) do(client, call int, op tree.Op) api.Errno {
	if err := n.tree.Would(op); err != api.OK {
		return err
	}
	if err := n.journal.Append(record.Encode(record.Of(client, call, 0, op))); err != api.OK {
		return err
	}
	n.tree.Apply(op)
	n.made++
	return api.OK
}
