package tree

import (
	"mahout/api"
	"mahout/paths"
)

// change: what makes the change that is asked for, or the error. Nothing is changed until it is called.
func (t *Tree) change(op Op) (func(), api.Errno) {
	if t == nil {
		return nil, api.ErrArg
	}
	switch op.Kind {
	case Mkdir:
		return t.putting(op.Path, &directory{})
	case Create:
		return t.putting(op.Path, &file{open: true, holder: op.Client})
	case Add:
		return t.adding(op)
	case Close:
		return t.closing(op)
	case Delete:
		return t.deleting(op)
	case Rename:
		return t.renaming(op)
	case Limit:
		return t.limiting(op)
	case Expire:
		return t.expiring(op)
	}
	return nil, api.ErrArg
}

// putting: a new node is put at a path.
func (t *Tree) putting(path string, n node) (func(), api.Errno) {
	at, err := t.placeFor(path)
	if err != api.OK {
		return nil, err
	}
	if !hasRoom(at.above, 1) {
		return nil, api.ErrQuota
	}
	return func() { at.fill(n) }, api.OK
}

// isSize: may a piece have so many bytes?
func isSize(n int) bool {
	return n >= 1 && n <= api.MaxBlock
}

func (t *Tree) adding(op Op) (func(), api.Errno) {
	f, err := t.findFile(op.Path)
	switch {
	case err != api.OK:
		return nil, err
	case !f.heldBy(op.Client):
		return nil, api.ErrLease
	case !isSize(op.Piece.Size):
		return nil, api.ErrArg
	case len(f.pieces) >= api.MaxBlocks:
		return nil, api.ErrLong
	}
	return func() { f.pieces = append(f.pieces, op.Piece) }, api.OK
}

func (t *Tree) closing(op Op) (func(), api.Errno) {
	f, err := t.findFile(op.Path)
	switch {
	case err != api.OK:
		return nil, err
	case !f.heldBy(op.Client):
		return nil, api.ErrLease
	}
	return f.close, api.OK
}

func (t *Tree) expiring(op Op) (func(), api.Errno) {
	f, err := t.findFile(op.Path)
	switch {
	case err != api.OK:
		return nil, err
	case !f.open:
		return nil, api.ErrLease
	}
	return f.close, api.OK
}

func (t *Tree) deleting(op Op) (func(), api.Errno) {
	if op.Path == root {
		return nil, api.ErrPath
	}
	at, err := t.find(op.Path)
	if err != api.OK {
		return nil, err
	}
	return at.empty, api.OK
}

func (t *Tree) limiting(op Op) (func(), api.Errno) {
	d, err := t.findDirectory(op.Path)
	switch {
	case err != api.OK:
		return nil, err
	case op.Quota < 0:
		return nil, api.ErrArg
	}
	return func() { d.quota = op.Quota }, api.OK
}

// isBelowRoot: is a text a path, and not the root's?
func isBelowRoot(path string) bool {
	return path != root && paths.Check(path) == api.OK
}

func (t *Tree) renaming(op Op) (func(), api.Errno) {
	if !isBelowRoot(op.Path) || !isBelowRoot(op.To) {
		return nil, api.ErrPath
	}
	from, err := t.find(op.Path)
	if err != api.OK {
		return nil, err
	}
	if paths.Within(op.To, op.Path) {
		return nil, api.ErrInside
	}
	to, err := t.placeFor(op.To)
	switch {
	case err != api.OK:
		return nil, err
	case !fits(from.node, len(to.above), len(op.To)): // a path has as many parts as ancestors
		return nil, api.ErrPath
	case anyOpen(from.node):
		return nil, api.ErrOpen
	case !hasRoom(notShared(to.above, from.above), 1+from.node.below()):
		return nil, api.ErrQuota
	}
	return func() {
		from.empty()
		to.fill(from.node)
	}, api.OK
}
