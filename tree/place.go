package tree

import (
	"mahout/api"
	"mahout/paths"
)

// place is where something stands, or where nothing stands and something may be put.
type place struct {
	above []*directory // the ancestors, the root first; the root has none
	name  string       // in the last of them
	node  node         // what stands there
}

// inside: the place of that name in what stands here, and the error of looking for something there. (Beside ErrNoEnt it's a place where something may be put.)
func (p place) inside(name string) (place, api.Errno) {
	switch n := p.node.(type) {
	case *directory:
		in := place{append(p.above, n), name, n.nodes[name]}
		if in.node == nil {
			return in, api.ErrNoEnt
		}
		return in, api.OK
	default:
		return place{}, api.ErrNotDir
	}
}

// fill puts a node where nothing stands.
func (p place) fill(n node) {
	p.above[len(p.above)-1].put(p.name, n)
	p.recount(1 + n.below())
}

// empty takes away what stands there, with all below it.
func (p place) empty() {
	delete(p.above[len(p.above)-1].nodes, p.name)
	p.recount(-1 - p.node.below())
}

// recount tells all ancestors that more, or fewer, stand below them.
func (p place) recount(more int) {
	for _, d := range p.above {
		d.count += more
	}
}

// hasRoom: do the quotas of all these directories leave room for so many more?
func hasRoom(above []*directory, n int) bool {
	for _, d := range above {
		if !d.hasRoom(n) {
			return false
		}
	}
	return true
}

// notShared: of the ancestors of one place those that aren't ancestors of another one. (What they share stands first in both.)
func notShared(above, others []*directory) []*directory {
	n := 0
	for n < len(above) && n < len(others) && above[n] == others[n] {
		n++
	}
	return above[n:]
}

// descend: the place to which these parts lead from the root, where something stands.
func (t *Tree) descend(parts []string) (place, api.Errno) {
	at := place{above: make([]*directory, 0, len(parts)+1), node: &t.root}
	for _, part := range parts {
		in, err := at.inside(part)
		if err != api.OK {
			return place{}, err
		}
		at = in
	}
	return at, api.OK
}

// find: the place of what stands at a path.
func (t *Tree) find(path string) (place, api.Errno) {
	parts, err := paths.Split(path)
	if err != api.OK {
		return place{}, err
	}
	return t.descend(parts)
}

// findFile: the file at a path.
func (t *Tree) findFile(path string) (*file, api.Errno) {
	at, err := t.find(path)
	if err != api.OK {
		return nil, err
	}
	switch n := at.node.(type) {
	case *file:
		return n, api.OK
	default:
		return nil, api.ErrIsDir
	}
}

// findDirectory: the directory at a path.
func (t *Tree) findDirectory(path string) (*directory, api.Errno) {
	at, err := t.find(path)
	if err != api.OK {
		return nil, err
	}
	switch n := at.node.(type) {
	case *directory:
		return n, api.OK
	default:
		return nil, api.ErrNotDir
	}
}

// placeFor: the place at a path where nothing stands yet.
func (t *Tree) placeFor(path string) (place, api.Errno) {
	parts, err := paths.Split(path)
	last := len(parts) - 1
	if err != api.OK || last < 0 {
		return place{}, api.ErrPath
	}
	parent, err := t.descend(parts[:last])
	if err != api.OK {
		return place{}, err
	}
	at, err := parent.inside(parts[last])
	switch err {
	case api.ErrNoEnt:
		return at, api.OK
	case api.OK:
		return place{}, api.ErrExists
	}
	return place{}, err
}
