package world

import (
	"strings"

	"mahout/api"
	"mahout/audit"
	"mahout/crc"
	"mahout/tree"
)

// client is a process that does what the script says.
type client struct {
	agent
	acts   []Act
	called []*call
}

func newClient(w *world, number int) *client {
	c := &client{agent: newAgent(w, number), acts: w.acts[number-1]}
	c.start(c.live)
	return c
}

func (c *client) live() {
	for i, act := range c.acts {
		c.do(i, act)
	}
}

func (c *client) do(number int, act Act) {
	switch act.Kind {
	case Mkdir, Create, Close, Delete:
		c.ask(tree.Op{Kind: act.Kind, Path: act.Path})
	case Rename:
		c.ask(tree.Op{Kind: tree.Rename, Path: act.Path, To: act.To})
	case Limit:
		c.ask(tree.Op{Kind: tree.Limit, Path: act.Path, Quota: act.Quota})
	case Append:
		c.add(act.Path, act.Data)
	case Read:
		c.read(act.Path)
	case List:
		c.list(act.Path)
	case Submit:
		c.submit(asideDirectory(c.number, number+1), act)
	case Status:
		c.list(jobDirectory(act.Path))
	}
}

// beginCall begins a call.
func (c *client) beginCall(kind int, op tree.Op) *call {
	one := &call{Call: audit.Call{Kind: kind, Client: c.number, Op: op, Start: c.w.step}}
	c.called = append(c.called, one)
	return one
}

// endCall: a call is answered.
func (c *client) endCall(one *call, code api.Errno, at int) {
	one.Done, one.End, one.Code, one.At = true, c.w.step, code, at
}

// ask asks for a change.
func (c *client) ask(op tree.Op) {
	c.carryOut(c.beginCall(audit.Write, op))
}

// carryOut asks for the change of a call.
func (c *client) carryOut(one *call) {
	one.number = c.begin()
	if t, heard := c.changeAs(one.number, one.Op); heard {
		c.endCall(one, t.code, t.at)
	}
}

// add writes one more piece of a file. What the name node would refuse is seen ahead: so nothing is stored for it.
func (c *client) add(path, data string) {
	one := c.beginCall(audit.Write, tree.Op{Kind: tree.Add, Path: path})
	one.Data = data
	if data == "" || len(data) > c.w.block {
		c.endCall(one, api.ErrUnavailable, 0)
		return
	}
	one.Op.Piece = api.Piece{Size: len(data), Sum: crc.Sum(data)}
	file, heard := c.look(path)
	if !heard {
		return
	}
	if code := c.refusal(file); code != api.OK {
		c.endCall(one, code, file.at)
		return
	}
	piece, code, heard := c.put(data)
	switch {
	case !heard:
		return
	case code != api.OK:
		c.endCall(one, code, 0)
		return
	}
	one.Op.Piece = piece
	c.carryOut(one)
}

// refusal: why no piece can be added to a file; OK, where it can.
func (c *client) refusal(file info) api.Errno {
	switch {
	case file.code != api.OK:
		return file.code
	case file.dir:
		return api.ErrIsDir
	case !file.open || file.holder != c.number:
		return api.ErrLease
	case len(file.pieces) >= api.MaxBlocks:
		return api.ErrLong
	}
	return api.OK
}

// read reads a file. Where its pieces aren't to be had it is looked at anew: it may be gone.
func (c *client) read(path string) {
	one := c.beginCall(audit.Read, tree.Op{Path: path})
	for end := c.w.now + longWait; ; {
		file, heard := c.look(path)
		switch {
		case !heard:
			return
		case file.code != api.OK:
			c.endCall(one, file.code, file.at)
			return
		case file.dir:
			c.endCall(one, api.ErrIsDir, file.at)
			return
		}
		if texts, read := c.fetch(shortWait, file.pieces); read {
			one.Data = strings.Join(texts, "")
			c.endCall(one, api.OK, file.at)
			return
		}
		if c.w.now >= end {
			c.endCall(one, api.ErrUnavailable, 0)
			return
		}
	}
}

func (c *client) list(path string) {
	one := c.beginCall(audit.List, tree.Op{Path: path})
	if t, heard := c.query(namesIn(path)); heard {
		one.Names = t.names
		c.endCall(one, t.code, t.at)
	}
}
