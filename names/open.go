package names

import (
	"mahout/api"
	"mahout/disk"
	"mahout/image"
	"mahout/journal"
	"mahout/record"
	"mahout/tree"
)

// Open: the name node whose journal lies on a disk.
func Open(d *disk.Disk, boot, every int) (*Node, api.Errno) {
	if boot < 1 || every < 0 {
		return nil, api.ErrArg
	}
	j, found, err := journal.Open(d)
	if err != api.OK {
		return nil, err
	}
	n := &Node{boot: boot, every: every, tree: tree.New(), journal: j, changed: map[int]int{}}
	if n.restore(found.Image) != api.OK {
		return nil, api.ErrCorrupt
	}
	for _, bytes := range found.Records {
		if n.replay(bytes) != api.OK {
			return nil, api.ErrCorrupt
		}
	}
	return n, api.OK
}

// restore takes the tree and the last calls from an image, if there is one.
func (n *Node) restore(bytes string) api.Errno {
	if bytes == "" {
		return api.OK
	}
	t, seen, err := image.Decode(bytes)
	if err != api.OK {
		return err
	}
	n.tree = t
	for _, s := range seen {
		n.recall(s.Client, s.Call)
	}
	return api.OK
}

// replay makes the change of a record once more.
func (n *Node) replay(bytes string) api.Errno {
	m, err := record.Decode(bytes)
	if err != api.OK {
		return err
	}
	op, err := record.Op(m)
	if err != api.OK {
		return err
	}
	if err := n.tree.Apply(op); err != api.OK {
		return err
	}
	n.recall(m.Client, m.Call)
	return api.OK
}

// recall: a client's call was done in an earlier boot. It may not be done again, so its answer is known again too: only what was done well has left a trace.
func (n *Node) recall(client, call int) {
	if client < 1 { // no client, but the name node itself
		return
	}
	n.changed[client] = call
	n.desk.Set(client, call, record.Encode(n.answer(client, call, api.OK)))
}
