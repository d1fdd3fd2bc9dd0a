package disk

import "slices"

// files are what lasts, or what a disk holds: the bytes of each file, by its name.
type files map[string][]byte

// copied: the same files, which share no byte.
func (f files) copied() files {
	same := make(files, len(f))
	for name, bytes := range f {
		same[name] = slices.Clone(bytes)
	}
	return same
}

// size: the bytes of all files.
func (f files) size() int {
	n := 0
	for _, bytes := range f {
		n += len(bytes)
	}
	return n
}

// change is what was done to a disk and may be lost. It is done twice: at once to what the disk holds, and to what lasts when it is synced or a crash keeps it.
type change interface {
	do(f files)
}

// appending is a change that a crash may tear.
type appending struct {
	name, data string
}

func (a appending) do(f files) {
	f[a.name] = append(f[a.name], a.data...)
}

// torn: the same change with no more than the first bytes of its data.
func (a appending) torn(bytes int) appending {
	a.data = a.data[:min(bytes, len(a.data))]
	return a
}

type renaming struct {
	from, to string
}

func (r renaming) do(f files) {
	f[r.to] = f[r.from]
	delete(f, r.from)
}

type deleting struct {
	name string
}

func (d deleting) do(f files) {
	delete(f, d.name)
}
