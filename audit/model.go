package audit

import (
	"strings"

	"mahout/api"
	"mahout/tree"
)

// model is the namespace behind the first of the changes, with the bytes of its files. In its tree a piece's block tells which change has added it: so the tree itself says whose bytes they are, wherever a file was renamed to.
type model struct {
	*tree.Tree
	changes []Change
	behind  int // how many of the changes it has gone through
}

// newModel: behind none of the changes.
func newModel(changes []Change) *model {
	return &model{Tree: tree.New(), changes: changes}
}

// step goes on to behind the next change, which is made, if the tree takes it.
func (m *model) step() api.Errno {
	op := m.changes[m.behind].Op
	op.Piece.Block = api.Block{Call: m.behind}
	m.behind++
	return m.Apply(op)
}

// bytesOf: the bytes of a piece in the tree.
func (m *model) bytesOf(p api.Piece) string {
	return m.changes[p.Block.Call].Data
}

// holds: are the bytes of these pieces, one behind the other, just this text?
func (m *model) holds(pieces []api.Piece, text string) bool {
	rest := text
	for _, p := range pieces {
		behind, begins := strings.CutPrefix(rest, m.bytesOf(p))
		if !begins {
			return false
		}
		rest = behind
	}
	return rest == ""
}

// files: the paths of all files, and the bytes of each.
func (m *model) files() ([]string, []string) {
	var paths, texts []string
	for _, e := range m.Entries() {
		if e.Dir {
			continue
		}
		var text strings.Builder
		for _, p := range e.Pieces {
			text.WriteString(m.bytesOf(p))
		}
		paths, texts = append(paths, e.Path), append(texts, text.String())
	}
	return paths, texts
}
