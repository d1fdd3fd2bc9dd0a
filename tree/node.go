package tree

import (
	"slices"
	"strings"

	"mahout/api"
)

// node is what stands at a path: a file or a directory.
type node interface {
	info() Info
	entry(path string) Entry
	below() int // how many files and directories stand below it
}

type file struct {
	open   bool
	holder int
	pieces []api.Piece
}

func (f *file) info() Info {
	size := 0
	for _, p := range f.pieces {
		size += p.Size
	}
	return Info{Open: f.open, Holder: f.holder, Size: size, Pieces: slices.Clone(f.pieces)}
}

func (f *file) entry(path string) Entry {
	return Entry{Path: path, Open: f.open, Holder: f.holder, Pieces: slices.Clone(f.pieces)}
}

func (f *file) below() int { return 0 }

// heldBy: may a client write it?
func (f *file) heldBy(client int) bool {
	return f.open && f.holder == client
}

func (f *file) close() {
	f.open, f.holder = false, 0
}

type directory struct {
	quota int
	count int // it stands here so that not every question about room has to go through all that is below
	nodes map[string]node
}

func (d *directory) info() Info {
	return Info{Dir: true, Quota: d.quota, Count: d.count}
}

func (d *directory) entry(path string) Entry {
	return Entry{Path: path, Dir: true, Quota: d.quota}
}

func (d *directory) below() int { return d.count }

func (d *directory) put(name string, n node) {
	if d.nodes == nil {
		d.nodes = map[string]node{}
	}
	d.nodes[name] = n
}

// names: of what stands in the directory, rising, in memory of their own.
func (d *directory) names() []string {
	names := make([]string, 0, len(d.nodes))
	for name := range d.nodes {
		names = append(names, strings.Clone(name))
	}
	slices.Sort(names)
	return names
}

// hasRoom: may so many more stand below the directory?
func (d *directory) hasRoom(n int) bool {
	return d.quota == 0 || d.count+n <= d.quota
}

// anyOpen: is a node an open file, or is there one below it?
func anyOpen(n node) bool {
	switch n := n.(type) {
	case *file:
		return n.open
	case *directory:
		for _, inside := range n.nodes {
			if anyOpen(inside) {
				return true
			}
		}
	}
	return false
}

// fits: do a node and all below it have paths, where its own one has so many parts and bytes?
func fits(n node, parts, bytes int) bool {
	if d, isDir := n.(*directory); isDir {
		for name, inside := range d.nodes {
			if !fits(inside, parts+1, bytes+len(slash)+len(name)) {
				return false
			}
		}
	}
	return parts <= api.MaxDepth && bytes <= api.MaxPath
}

// entriesOf puts the entries of what stands at a path, and of all below it, behind a list.
func entriesOf(list []Entry, path string, n node) []Entry {
	list = append(list, n.entry(path))
	if d, isDir := n.(*directory); isDir {
		for _, name := range d.names() {
			list = entriesOf(list, strings.TrimSuffix(path, slash)+slash+name, d.nodes[name])
		}
	}
	return list
}
