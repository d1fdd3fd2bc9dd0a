package world

import (
	"mahout/api"
	"mahout/audit"
	"mahout/paths"
	"mahout/tree"
)

// submit lays a job aside, and then gives it its name.
func (c *client) submit(aside string, act Act) {
	to := jobDirectory(act.Path)
	one := c.beginCall(audit.Write, tree.Op{Kind: tree.Rename, Path: aside, To: to})
	if paths.Check(to) != api.OK {
		c.carryOut(one)
		return
	}
	made, heard := c.makeAside(aside)
	code := made
	if heard && made == api.OK {
		code, heard = c.fill(aside, specOf(act.Job))
	}
	switch {
	case !heard:
		return
	case isFull(code):
		c.endCall(one, api.ErrFull, 0)
	case made == api.OK && code != api.OK:
		c.endCall(one, api.ErrUnavailable, 0)
	default: // where there is no directory the name node says what is wrong
		c.carryOut(one)
	}
	if made == api.OK && one.Done && one.Code != api.OK {
		c.change(tree.Op{Kind: tree.Delete, Path: aside})
	}
}

// makeAside makes the directory, and waits for a while till the master has made the one of all jobs. False, where a call was given up.
func (c *client) makeAside(aside string) (api.Errno, bool) {
	for end := c.w.now + shortWait; ; c.pause(shortPause) {
		t, heard := c.change(tree.Op{Kind: tree.Mkdir, Path: aside})
		if !heard || t.code != api.ErrNoEnt || c.w.now >= end {
			return t.code, heard
		}
	}
}

// fill lays the job into its directory. False, where a call was given up.
func (c *client) fill(aside, spec string) (api.Errno, bool) {
	code, heard := c.write(below(aside, specName), spec)
	if !heard || code != api.OK {
		return code, heard
	}
	return c.write(below(aside, tokenName), "")
}
